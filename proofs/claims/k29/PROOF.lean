import PyProof.Rows.All
import KE.KIntText
import KE.SortData
import KE.KeyNested
import Wide.All
import OpenK.AllK
import Wide.FinOn
import HandS.ForMost
import HandS.IsInst
import HandS.TupAny
import HandS.NoneIn
import HandS.TupMul
import HandS.Zip
import HandS.Evl
import PyProof.ReprRoads
import HandS.AnyAll
import HandS.Comp
import PyProof.TupleOfGen
import HandS.Set
import HandS.SortInts
import HandS.Walk
import HandS.TupSets
import HandS.Text
import HandS.RaiseMore
import KE.KUnpackStar
import HandS.Conv
import HandS.SetFor
import HandS.Strs
import HandS.Style
import KE.GoesEnumKw
import PySem.Challenge.RW_sentnext_k29_stairs_of_rests
import HandS.Exc
import HandS.ExcInit
import HandS.ExcField
import HandS.ExcIs
import HandS.WordsExc
import KE.KExcIs
import HandS.GenList
import KE.KDictWalk
import HandS.DictComp
import HandS.SortKw
import KE.DatumOrd
import HandS.DictTup
import PyProof.Transfer
import HandS.TupLen
set_option Elab.async false
set_option linter.all false
set_option maxRecDepth 100000
set_option maxHeartbeats 4000000
namespace Qu
open PySem PySem.Spec PyProof.Rows L2
/-! ### data stays where the heap only grows -/
theorem sameT {K : PySem.W.Frag} {H J : Hp} {a : Addr} {xs : List V} (e : Same H J) (h : SqT K H a xs) : SqT K J a xs := by
  rcases h with (h | ⟨o, h⟩) | h
  · exact Or.inl (Or.inl (e _ _ h))
  · exact Or.inl (Or.inr ⟨o, e _ _ h⟩)
  · exact Or.inr h
mutual
theorem dpSame {K : PySem.W.Frag} {H J : Hp} (e : Same H J) : ∀ (d : PyData) (v : V), Dp K H v d → Dp K J v d
  | .none, _, h => by cases h; exact .non
  | .bool b, _, h => by cases h; exact .bl b
  | .int i, _, h => by cases h; exact .int i
  | .str x, _, h => by cases h; exact .str x
  | .list ds, _, h => by cases h with | lst hs ha => exact .lst (e.seq hs) (dpAllSame e ds _ ha)
  | .tuple ds, _, h => by cases h with | tup hs ha => exact .tup (sameT e hs) (dpAllSame e ds _ ha)
  | .dict _, _, h => by cases h
theorem dpAllSame {K : PySem.W.Frag} {H J : Hp} (e : Same H J) : ∀ (ds : List PyData) (vs : List V), DpAll K H vs ds → DpAll K J vs ds
  | [], _, h => by cases h; exact .nil
  | d :: ds, _, h => by cases h with | cons h1 h2 => exact .cons (dpSame e d _ h1) (dpAllSame e ds _ h2)
end
mutual
theorem dpNoDict {K : PySem.W.Frag} {H : Hp} : ∀ (d : PyData) (v : V), Dp K H v d → d.hasDict = false
  | .none, _, _ => by simp only [PyData.hasDict]
  | .bool _, _, _ => by simp only [PyData.hasDict]
  | .int _, _, _ => by simp only [PyData.hasDict]
  | .str _, _, _ => by simp only [PyData.hasDict]
  | .list ds, _, h => by cases h with | lst hs ha => simp only [PyData.hasDict]; exact dpAllNoDict ds _ ha
  | .tuple ds, _, h => by cases h with | tup hs ha => simp only [PyData.hasDict]; exact dpAllNoDict ds _ ha
  | .dict _, _, h => by cases h
theorem dpAllNoDict {K : PySem.W.Frag} {H : Hp} : ∀ (ds : List PyData) (vs : List V), DpAll K H vs ds → PyData.hasDictAll ds = false
  | [], _, _ => by simp only [PyData.hasDictAll]
  | d :: ds, _, h => by cases h with | cons h1 h2 => simp only [PyData.hasDictAll, dpNoDict d _ h1, dpAllNoDict ds _ h2, Bool.or_false]
end

/-! ### repr of data, where no repr is under way around -/
section
variable {X : Cx}
def rShow (K : PySem.W.Frag) : List V → Hp → VK → Prop := fun xs H Q => ∃ (v : V) (d : PyData), xs = [v] ∧ Dp K H v d ∧ d.showable = true ∧ d.depth ≤ 50 ∧ d.shown.length ≤ sizeLine ∧ Q (.str d.shown) H
theorem call_show (hg : X.A.guards = some []) (hu : X.A.units + 64 < cLine) : CallR X (.builtin "repr") (rShow X.K) := by
  intro pins s σ H xs us Q I r h
  obtain ⟨v, d, rfl, hd, hs, hdep, hz, q⟩ := h
  obtain ⟨u, rfl, ru⟩ := vals1 r
  obtain ⟨as, rd⟩ := Dp.reads I d v u hd ru
  have nd := PyData.noDict_hsm (as := as) (dpNoDict d v hd)
  cases hd with
  | non =>
    cases ru
    refine PySem.P.repr_of_none ?_
    exact ⟨.str _, H, I.tok _, ⟨_, rfl⟩, by simpa only [PyData.shown] using q⟩
  | bl b =>
    cases ru
    refine PySem.P.repr_of_bool ?_
    exact ⟨.str _, H, I.tok _, ⟨_, rfl⟩, by simpa only [PyData.shown] using q⟩
  | int i =>
    obtain ⟨t, rfl⟩ := ru
    refine PySem.P.repr_of_int (by simpa [PyData.showable] using hs) ?_
    exact ⟨.str _, H, I.tok _, ⟨_, rfl⟩, by simpa only [PyData.shown] using q⟩
  | str x =>
    obtain ⟨t, rfl⟩ := ru
    refine PySem.P.repr_of_str ?_ (by simpa only [PyData.shown] using hz)
    exact ⟨.str _, H, I.tok _, ⟨_, rfl⟩, by simpa only [PyData.shown] using q⟩
  | lst h1 h2 =>
    cases ru
    exact repr_of_reads' (h₀ := s.heap) rd hs nd hg (by omega) (fun _ _ e => e) (fun h' tu tk hk => ⟨.str _, H, I.kept hk, ⟨_, rfl⟩, q⟩) hz
  | tup h1 h2 =>
    cases ru
    exact repr_of_reads' (h₀ := s.heap) rd hs nd hg (by omega) (fun _ _ e => e) (fun h' tu tk hk => ⟨.str _, H, I.kept hk, ⟨_, rfl⟩, q⟩) hz
end

/-! ### isinstance of data -/
def kindD : PyData → String
  | .none => "NoneType"
  | .bool _ => "bool"
  | .int _ => "int"
  | .str _ => "str"
  | .list _ => "list"
  | .tuple _ => "tuple"
  | .dict _ => "dict"
section
variable {K : PySem.W.Frag} {H : Hp}
theorem dpTy {d : PyData} {v : V} (h : Dp K H v d) : TyX K H v (.type (kindD d)) := by
  cases h with
  | non => exact .base .non
  | bl b => exact .base (.bl b)
  | int i => exact .base (.int i)
  | str x => exact .base (.str x)
  | lst h1 _ =>
    rcases h1 with (h1 | ⟨o, h1⟩) | ⟨o, its, n, hk, hc, _⟩
    · exact .base (.lst h1)
    · exact .base (.frz h1)
    · exact .kList hk hc
  | tup h1 _ =>
    rcases h1 with (h1 | ⟨o, h1⟩) | ⟨o, its, n, hk, hc, _⟩
    · exact .base (.tup h1)
    · exact .fTuple h1
    · exact .kTuple hk hc
def isS (T k : String) : Bool := decide (k = T) || (decide (T = "int") && decide (k = "bool"))
def isA (T : String) (d : PyData) : Bool := isS T (kindD d)
theorem kitS : ∀ T ∈ ["tuple", "int", "bool", "str", "list"], ∀ k ∈ ["NoneType", "bool", "int", "str", "list", "tuple"], kitB k T = some (isS T k) := by decide +kernel
theorem dpKind {d : PyData} {v : V} (h : Dp K H v d) : kindD d ∈ ["NoneType", "bool", "int", "str", "list", "tuple"] := by
  cases h <;> simp [kindD]
end
section
variable {X : Cx}
def rIsD (K : PySem.W.Frag) (T : String) : List V → Hp → VK → Prop := fun xs H Q => ∃ (v : V) (d : PyData), xs = [v, .ty T] ∧ Dp K H v d ∧ Q (.bl (isA T d)) H
theorem call_isD (T : String) (hT : T ∈ ["tuple", "int", "bool", "str", "list"]) : CallR X (.builtin "isinstance") (rIsD X.K T) := by
  intro pins s σ H xs us Q I r h
  obtain ⟨v, d, rfl, hd, q⟩ := h
  refine call_isi pins s σ H _ us Q I r ⟨v, .ty T, .type (kindD d), .type T, isA T d, rfl, .ty T, dpTy hd, kit_ty (kitS T hT _ (dpKind hd)), q⟩
end
/-! ### the end of a law: its def is called by the row's own caller, so nothing is under way around it -/
/-- where the script stands -/
def onlyAt (a : Addr) (u : HO) (free : Bool) : Hp := fun b => if b = a ∧ free = true then some u else none
theorem onlyAt_cases (a : Addr) (u : HO) (free : Bool) (b : Addr) : onlyAt a u free b = none ∨ (b = a ∧ free = true ∧ onlyAt a u free b = some u) := by
  by_cases h : b = a ∧ free = true
  · exact Or.inr ⟨h.1, h.2, if_pos h⟩
  · exact Or.inl (if_neg h)
/-- what the law's body has to do, at any place where its def is called by the caller -/
def LawDoes (P : Program) (w : World) (K : PySem.W.Frag) (mg : Str → Option Value) (st : Stmt) (N : List Str) (f : Addr) : Prop :=
  ∀ (base : Heap) (cdv : Value) (s : Shared) (H : Hp) (a : Addr) (ns : List Int), ns.length ≤ 63 → SqL K H a (ns.map V.int) →
    ∃ t, PSs (cxOf CX0 P w K mg base N "law" (defScope st) f cdv callerA [] s H E0).nox (defBody st) t ∧
      t { nx := fun _ _ => False, rt := fun v _ => v = .bl true } (start N [.ref a]) H
theorem law_at {P : Program} {w : World} {K : PySem.W.Frag} {mg : Str → Option Value} {base : Heap} {st : Stmt} {N : List Str} {f a : Addr} {fd : FuncData} {s : Shared} {H : Hp} {ns : List Int} {x : Str}
    (F : Fun K "law" "law" st f fd) (S : FnScope N [x] (defScope st)) (hr : Room 60 callerA) (D : LawDoes P w K mg st N f)
    (e0 : Env0 P w K mg base callerA [] s H) (hb : BindsTo s fd ⟨[.ref a], []⟩ [(x, .ref a)]) (hl : ns.length ≤ 63) (hS : SqL K H a (ns.map V.int)) :
    codeAny (model P w) callerA (.call (.ref f) ⟨[.ref a], []⟩) (CR CX0 [] P w H s (fun v _ => v = .bl true) E0) s := by
  obtain ⟨oc, od, kV, doc, pm, an, cdv, ct, osl, rfl, lk, hcd⟩ := F.ex
  have heap0 : K.In s.heap := e0.mod.kin.keeps fun b o e => (e0.bs b o e).1
  have lim0 := e0.mod.nolimit.keeps fun b o e => (e0.bs b o e).1
  have vals : Vals [V.ref a] [Value.ref a] := .cons rfl .nil
  refine codeAny_call_function hr.depth (heap0 _ _ lk) rfl S.co S.gen rfl (PySem.W.codeRec_of heap0 hcd) (hb _ _ _ _ ?_)
  refine wpAny_newFunctionEnv_cells S.kind (fun y hy => ?_) fun env he s1 ic => ?_
  · have ey : y = (x, Value.ref a) := List.mem_singleton.mp hy
    rw [ey]
    rcases S.par x (List.mem_singleton.mpr rfl) with q | q
    · exact Or.inl q
    · exact Or.inr ⟨q, PySem.W.cellsFrom_some _ _ _ (Or.inl q)⟩
  · subst he
    refine ⟨lim0.keeps ic.toInCall.keep, codeAny_func ?_⟩
    obtain ⟨t, pt, q⟩ := D base cdv s H a ns hl hS
    have I := inv_start (CX := CX0) (E := E0) (cd := cdv) (f := f) (qual := "law") S hr.hd e0 rfl vals ic
    refine wpAny_mono (pt.nox.run [] s1 _ H _ I q) ?_ ?_
    · intro fl s2 h
      cases fl with
      | ret u =>
        obtain ⟨v, _, H2, J, rv, e⟩ := h
        exact ⟨v, H2, J.os, J.bare, J.base, J.hok, rv, e⟩
      | next => exact (let ⟨_, _, _, z⟩ := h; False.elim z)
      | brk => exact (let ⟨_, _, _, z⟩ := h; False.elim z)
      | cont => exact (let ⟨_, _, _, z⟩ := h; False.elim z)
    · exact fun _ _ z => z
theorem law_walk {l : PySem.W.OpenLaw} {q : Program} {loose : List Str} {XP : (Str → Option Value) → Heap → Prop} {YP : World → Heap → Prop} {d : DefRec} {K : Params → PySem.W.Frag} {x : Str} {st : Stmt} {N : List Str}
    (hn : l.most = some 63) (hdf : d.params.defaults = []) (S : FnScope N [x] (defScope st)) (hY : ∀ (w : World) (h : Heap), YP w h → (K w.params).In h)
    (Fm : ∀ (w : World) (mg : Str → Option Value) (fa : Addr) (h : Heap), (K w.params).In h → h.Ns mainGlobals mg → mg d.name = some (.ref fa) →
      ∃ fd : FuncData, Fun (K w.params) "law" "law" st fa fd ∧ (∀ (s : Shared) (u : Value), BindsTo s fd ⟨[u], []⟩ [(x, u)]) ∧ LawDoes l.prog w (K w.params) mg st N fa) :
    PySem.W.WalkO q loose XP YP l.row.toRowW d [] (fun f vs => PySem.call f vs) := by
  refine Att.attach_call hn hdf fun w s₀ s1 mg mb fa o pm cd doc a vs ns G Y ho hd hcd hmg hobj hints hlen hgen => ?_
  have hK := hY w _ Y
  obtain ⟨fd, F, hbind, D⟩ := Fm w mg fa _ hK G.T.g hmg
  have rv := vals_ints hints
  -- the script is tracked, as known to the object, unless it is one of the module's
  let u : HO := .frz { cls := .type "list", data := .seq vs.toArray } (.lst (ns.map V.int))
  let free : Bool := ((K w.params).lookup a).isNone
  let H : Hp := onlyAt a u free
  have lenV : vs.length = ns.length := hints.length
  have small : ns.length ≤ sizeLine := Nat.le_trans hlen (by decide)
  have hS : SqL (K w.params) H a (ns.map V.int) := by
    cases e : (K w.params).lookup a with
    | none => exact Or.inl (Or.inr ⟨_, if_pos ⟨rfl, by show ((K w.params).lookup a).isNone = true; rw [e]; rfl⟩⟩)
    | some ob =>
      have e1 := (hK a ob e).symm.trans hobj
      cases Option.some.inj e1
      exact Or.inr ⟨_, vs.toArray, _, e, rfl, rfl, rfl, by rw [List.size_toArray, lenV]; exact small, by rw [List.toList_toArray]; exact rv⟩
  have hHok : HOk l.prog w H s1.heap := fun b z e => by
    rcases onlyAt_cases a u free b with n | ⟨rfl, _, y⟩
    · cases n.symm.trans e
    · cases y.symm.trans e
      exact ⟨hobj, by rw [List.length_map]; exact small, vs, _, rv, hobj⟩
  have isL : ∀ {b : Addr} {ob : Obj}, s1.heap.get? b = some ob → (∀ its n, ob.data ≠ .seq its n) → H b = none := fun {b ob} e nd => by
    rcases onlyAt_cases a u free b with n | ⟨rfl, _, _⟩
    · exact n
    · cases hobj.symm.trans e
      exact absurd rfl (nd _ _)
  have nsK : ∀ {b : Addr} {m : Str → Option Value}, s1.heap.Ns b m → (hidT s1.heap H).Ns b m := by
    rintro b m ⟨ob, es, ep, e, dt, r⟩
    exact ⟨ob, es, ep, hidT_get e (isL e fun its n z => nomatch dt.symm.trans z), dt, r⟩
  have inB : (K w.params).In (hidT s1.heap H) := fun b ob e => hidT_get (hK b ob e) (by
    rcases onlyAt_cases a u free b with n | ⟨rfl, fr, _⟩
    · exact n
    · have fr' : ((K w.params).lookup b).isNone = true := fr
      rw [e] at fr'
      cases fr')
  have hM : Mod (K w.params) mg (hidT s1.heap H) := ⟨inB, nsK G.T.g, ⟨mb, nsK G.T.b, G.T.builtins⟩, let ⟨mc, h1, h2⟩ := G.T.nolimit; ⟨mc, nsK h1, h2⟩⟩
  have e0 : Env0 l.prog w (K w.params) mg (hidT s1.heap H) callerA [] s1 H :=
    { frames := rfl, mod := hM, bs := fun b ob e => of_hidT e, bsz := Nat.le_of_eq (hidT_size _ _), funs := True.intro, frf := fun b hb => (List.not_mem_nil hb).elim, hok := hHok, bare := .of_eq hgen }
  refine codeAny_mono (law_at F S ⟨rfl, by decide, by decide⟩ D e0 (hbind s1 (.ref a)) hlen hS) fun r s2 h => ?_
  cases r with
  | error e => exact False.elim h
  | ok fl =>
    cases fl with
    | next => exact False.elim h
    | brk => exact False.elim h
    | cont => exact False.elim h
    | ret v0 =>
      obtain ⟨v, H2, os, bare, un, hok2, r2, ev⟩ := h
      have ev' : v = .bl true := ev
      rw [ev'] at r2
      have e3 : v0 = Value.bool true := r2
      rw [e3]
      refine ⟨rfl, OldK.of_keep fun b ob e => ?_, os, bare⟩
      rcases onlyAt_cases a u free b with n | ⟨rfl, _, y⟩
      · exact un.keep b ob e n List.not_mem_nil List.not_mem_nil
      · have k2 := hok2 b _ (un.frzs b _ _ y)
        cases hobj.symm.trans e
        exact k2.1
/-! ### how much there is to a piece of data, and that it can be shown -/
mutual
def wt : PyData → Nat
  | .list ds => 1 + wtAll ds
  | .tuple ds => 1 + wtAll ds
  | _ => 1
def wtAll : List PyData → Nat
  | [] => 0
  | d :: ds => wt d + wtAll ds
end
mutual
def nice (e : Nat) : PyData → Bool
  | .none => true
  | .bool _ => true
  | .int i => decide (i.natAbs < 2 ^ e)
  | .str x => decide (x.length ≤ 10) && PyData.strOk x
  | .list ds => niceAll e ds
  | .tuple ds => niceAll e ds
  | .dict _ => false
def niceAll (e : Nat) : List PyData → Bool
  | [] => true
  | d :: ds => nice e d && niceAll e ds
end
theorem niceAll_iff {e : Nat} : ∀ {ds : List PyData}, niceAll e ds = true ↔ ∀ d ∈ ds, nice e d = true
  | [] => by simp [niceAll]
  | d :: ds => by simp [niceAll, niceAll_iff (ds := ds)]
theorem wtAll_append : ∀ a b : List PyData, wtAll (a ++ b) = wtAll a + wtAll b
  | [], b => by simp [wtAll]
  | d :: a, b => by simp [wtAll, wtAll_append a b]; omega
theorem wtAll_reverse : ∀ a : List PyData, wtAll a.reverse = wtAll a
  | [] => rfl
  | d :: a => by rw [List.reverse_cons, wtAll_append, wtAll_reverse a]; simp [wtAll]; omega
theorem wt_pos (d : PyData) : 1 ≤ wt d := by cases d <;> simp [wt]
theorem wtAll_len : ∀ ds : List PyData, ds.length ≤ wtAll ds
  | [] => Nat.le_refl _
  | d :: ds => by
    have := wtAll_len ds
    have := wt_pos d
    simp only [List.length_cons, wtAll]
    omega
theorem depthAll_append : ∀ a b : List PyData, PyData.depthAll (a ++ b) = max (PyData.depthAll a) (PyData.depthAll b)
  | [], b => by simp [PyData.depthAll]
  | d :: a, b => by simp only [List.cons_append, PyData.depthAll, depthAll_append a b]; omega
theorem depthAll_le {m : Nat} : ∀ {ds : List PyData}, PyData.depthAll ds ≤ m ↔ ∀ d ∈ ds, d.depth ≤ m
  | [] => by simp [PyData.depthAll]
  | d :: ds => by
    have ih := depthAll_le (m := m) (ds := ds)
    simp only [PyData.depthAll, List.mem_cons, forall_eq_or_imp, ← ih]
    omega
theorem log_lt {e : Nat} {i : Int} (h : i.natAbs < 2 ^ e) : i.natAbs.log2 < e + 1 := by
  by_cases z : i.natAbs = 0
  · rw [z]
    exact Nat.lt_of_le_of_lt (Nat.le_of_eq (by decide : Nat.log2 0 = 0)) (Nat.succ_pos e)
  · exact Nat.lt_succ_of_lt ((Nat.log2_lt z).mpr h)
theorem shownAll_len : ∀ ds : List PyData, (PyData.shownAll ds).length = ds.length
  | [] => by simp [PyData.shownAll]
  | d :: ds => by simp [PyData.shownAll, shownAll_len ds]
mutual
theorem nice_shown {e : Nat} : ∀ d : PyData, nice e d = true → d.shown.length + 2 ≤ (e + 110) * wt d
  | .none, _ => by simp only [PyData.shown, wt]; exact Nat.le_trans (by decide : ("None" : Str).length + 2 ≤ 110) (by omega)
  | .bool b, _ => by
    simp only [PyData.shown, wt]
    cases b
    · exact Nat.le_trans (by decide : ("False" : Str).length + 2 ≤ 110) (by omega)
    · exact Nat.le_trans (by decide : ("True" : Str).length + 2 ≤ 110) (by omega)
  | .int i, h => by
    have h' : i.natAbs < 2 ^ e := by simpa [nice] using h
    have := int_text_length_le (Nat.succ_pos e) (log_lt h')
    simp only [PyData.shown, wt]
    show (Str.ofString (toString i)).length + 2 ≤ _
    rw [PyProof.Rows.ofString_len]
    omega
  | .str x, h => by
    have h' : x.length ≤ 10 ∧ PyData.strOk x = true := by simpa [nice] using h
    have h2 : ∀ c ∈ x.cps.toList, c < 16 ^ 8 := fun c hc => by
      have h3 := h'.2
      unfold PyData.strOk at h3
      have h4 := Array.all_eq_true_iff_forall_mem.mp h3 c (by simpa using hc)
      have h5 : c < 0x110000 := by simpa using h4
      exact Nat.lt_trans h5 (by decide)
    have := StrLaws.reprText_len x h2
    simp only [PyData.shown, wt]
    omega
  | .list ds, h => by
    have ih := nice_shownAll ds (by simpa [nice] using h)
    have l := listText_len_le (PyData.shownAll ds)
    rw [shownAll_len] at l
    simp only [PyData.shown, wt]
    rw [Nat.mul_add (e + 110)]
    omega
  | .tuple ds, h => by
    have ih := nice_shownAll ds (by simpa [nice] using h)
    have l := tupleText_len_le (PyData.shownAll ds)
    rw [shownAll_len] at l
    simp only [PyData.shown, wt]
    rw [Nat.mul_add (e + 110)]
    omega
  | .dict _, h => by simp [nice] at h
theorem nice_shownAll {e : Nat} : ∀ ds : List PyData, niceAll e ds = true → ((PyData.shownAll ds).map (·.length)).sum + 2 * ds.length ≤ (e + 110) * wtAll ds
  | [], _ => by simp [PyData.shownAll]
  | d :: ds, h => by
    have h' : nice e d = true ∧ niceAll e ds = true := by simpa [niceAll] using h
    have h1 := nice_shown d h'.1
    have h2 := nice_shownAll ds h'.2
    simp only [PyData.shownAll, List.map_cons, List.sum_cons, List.length_cons, wtAll]
    rw [Nat.mul_add (e + 110)]
    omega
end
mutual
theorem nice_showable {e : Nat} (he : e < 1900) : ∀ d : PyData, nice e d = true → d.showable = true
  | .none, _ => by simp [PyData.showable]
  | .bool b, _ => by simp [PyData.showable]
  | .int i, h => by
    have h' : i.natAbs < 2 ^ e := by simpa [nice] using h
    have := log_lt h'
    simp only [PyData.showable, decide_eq_true_eq]
    omega
  | .str x, h => by simp [PyData.showable]
  | .list ds, h => by simp only [PyData.showable]; exact nice_showableAll he ds (by simpa [nice] using h)
  | .tuple ds, h => by simp only [PyData.showable]; exact nice_showableAll he ds (by simpa [nice] using h)
  | .dict _, h => by simp [nice] at h
theorem nice_showableAll {e : Nat} (he : e < 1900) : ∀ ds : List PyData, niceAll e ds = true → PyData.showableAll ds = true
  | [], _ => by simp [PyData.showableAll]
  | d :: ds, h => by
    have h' : nice e d = true ∧ niceAll e ds = true := by simpa [niceAll] using h
    simp only [PyData.showableAll, nice_showable he d h'.1, nice_showableAll he ds h'.2, Bool.and_self]
end
mutual
theorem nice_lay {e : Nat} : ∀ d : PyData, nice e d = true → d.canLay0 = true
  | .none, _ => by simp [PyData.canLay0]
  | .bool b, _ => by simp [PyData.canLay0]
  | .int i, h => by simp [PyData.canLay0]
  | .str x, h => by
    have h' : x.length ≤ 10 ∧ PyData.strOk x = true := by simpa [nice] using h
    simp only [PyData.canLay0, h'.2]
  | .list ds, h => by simp only [PyData.canLay0]; exact nice_layAll ds (by simpa [nice] using h)
  | .tuple ds, h => by simp only [PyData.canLay0]; exact nice_layAll ds (by simpa [nice] using h)
  | .dict _, h => by simp [nice] at h
theorem nice_layAll {e : Nat} : ∀ ds : List PyData, niceAll e ds = true → PyData.canLayAll0 ds = true
  | [], _ => by simp [PyData.canLayAll0]
  | d :: ds, h => by
    have h' : nice e d = true ∧ niceAll e ds = true := by simpa [niceAll] using h
    simp only [PyData.canLayAll0, nice_lay d h'.1, nice_layAll ds h'.2, Bool.and_self]
end
theorem nice_shaped {e : Nat} {d : PyData} (h : nice e d = true) (hd : d.depth ≤ 64) : SeqAt.shaped d = true := by
  unfold SeqAt.shaped
  rw [nice_lay d h, decide_eq_true hd]
  rfl
mutual
theorem nice_more {e f : Nat} (hef : e ≤ f) : ∀ d : PyData, nice e d = true → nice f d = true
  | .none, _ => by simp [nice]
  | .bool b, _ => by simp [nice]
  | .int i, h => by
    have h' : i.natAbs < 2 ^ e := by simpa [nice] using h
    simp only [nice, decide_eq_true_eq]
    exact Nat.lt_of_lt_of_le h' (Nat.pow_le_pow_right (by decide) hef)
  | .str x, h => by simpa [nice] using h
  | .list ds, h => by simp only [nice]; exact nice_moreAll hef ds (by simpa [nice] using h)
  | .tuple ds, h => by simp only [nice]; exact nice_moreAll hef ds (by simpa [nice] using h)
  | .dict _, h => by simp [nice] at h
theorem nice_moreAll {e f : Nat} (hef : e ≤ f) : ∀ ds : List PyData, niceAll e ds = true → niceAll f ds = true
  | [], _ => by simp [niceAll]
  | d :: ds, h => by
    have h' : nice e d = true ∧ niceAll e ds = true := by simpa [niceAll] using h
    simp only [niceAll, nice_more hef d h'.1, nice_moreAll hef ds h'.2, Bool.and_self]
end
/-- data that is small: exponent of its numbers, weight, depth -/
structure Tiny (e W m : Nat) (d : PyData) : Prop where
  ni : nice e d = true
  we : wt d ≤ W
  de : d.depth ≤ m
theorem Tiny.mono {e W m e' W' m' : Nat} {d : PyData} (t : Tiny e W m d) (h1 : e ≤ e') (h2 : W ≤ W') (h3 : m ≤ m') : Tiny e' W' m' d :=
  ⟨nice_more h1 d t.ni, Nat.le_trans t.we h2, Nat.le_trans t.de h3⟩
theorem Tiny.shows {e W m : Nat} {d : PyData} (t : Tiny e W m d) (he : e < 1900) (hm : m ≤ 50) (hW : (e + 110) * W ≤ sizeLine) : d.showable = true ∧ d.depth ≤ 50 ∧ d.shown.length ≤ sizeLine := by
  refine ⟨nice_showable he d t.ni, Nat.le_trans t.de hm, ?_⟩
  have h1 := nice_shown d t.ni
  have h2 : (e + 110) * wt d ≤ (e + 110) * W := Nat.mul_le_mul_left _ t.we
  omega
/-- items of a piece of data -/
theorem wt_item : ∀ {ds : List PyData} {d : PyData}, d ∈ ds → wt d ≤ wtAll ds
  | x :: ds, d, h => by
    simp only [wtAll]
    rcases List.mem_cons.mp h with rfl | h
    · omega
    · have := wt_item h
      omega
theorem dpAll_len {K : PySem.W.Frag} {H : Hp} : ∀ {vs : List V} {ds : List PyData}, DpAll K H vs ds → vs.length = ds.length
  | _, _, .nil => rfl
  | _, _, .cons _ t => by simp only [List.length_cons, dpAll_len t]
theorem dpAll_get {K : PySem.W.Frag} {H : Hp} : ∀ {vs : List V} {ds : List PyData} {i : Nat} {v : V}, DpAll K H vs ds → vs[i]? = some v → ∃ d, ds[i]? = some d ∧ Dp K H v d
  | _, _, 0, v, .cons h _, e => by simp at e; subst e; exact ⟨_, rfl, h⟩
  | _, _, i + 1, v, .cons _ t, e => by
    obtain ⟨d, h1, h2⟩ := dpAll_get (i := i) (v := v) t (by simpa using e)
    exact ⟨d, by simpa using h1, h2⟩
theorem dpAll_append {K : PySem.W.Frag} {H : Hp} : ∀ {vs ws : List V} {ds es : List PyData}, DpAll K H vs ds → DpAll K H ws es → DpAll K H (vs ++ ws) (ds ++ es)
  | _, _, _, _, .nil, h => h
  | _, _, _, _, .cons a t, h => .cons a (dpAll_append t h)
theorem dpAll_take {K : PySem.W.Frag} {H : Hp} : ∀ {vs : List V} {ds : List PyData} (n : Nat), DpAll K H vs ds → DpAll K H (vs.take n) (ds.take n)
  | _, _, 0, _ => .nil
  | _, _, _ + 1, .nil => .nil
  | _, _, n + 1, .cons a t => .cons a (dpAll_take n t)
theorem dpAll_drop {K : PySem.W.Frag} {H : Hp} : ∀ {vs : List V} {ds : List PyData} (n : Nat), DpAll K H vs ds → DpAll K H (vs.drop n) (ds.drop n)
  | _, _, 0, h => h
  | _, _, _ + 1, .nil => .nil
  | _, _, n + 1, .cons _ t => dpAll_drop n t
theorem dpAll_reverse {K : PySem.W.Frag} {H : Hp} : ∀ {vs : List V} {ds : List PyData}, DpAll K H vs ds → DpAll K H vs.reverse ds.reverse
  | _, _, .nil => .nil
  | _, _, .cons a t => by
    rw [List.reverse_cons, List.reverse_cons]
    exact dpAll_append (dpAll_reverse t) (.cons a .nil)
/-! ### cuts: what is known behind a test or an expression, said once -/
section
variable {X : Cx}
theorem pt_cut {e : Expr} {t : TT} (h : PT X e t) : PT X e (fun σ H Q => ∃ G : Bool → Hp → Prop, t σ H G ∧ ∀ b J, G b J → Q b J) :=
  ⟨fun pins s σ H Q I ⟨G, g, q⟩ => thn (h.run pins s σ H G I g) fun b s1 ⟨J, I1, z⟩ => ⟨J, I1, q b J z⟩⟩
theorem pe_cut {e : Expr} {t : TE} (h : PE X e t) : PE X e (fun σ H Q => ∃ G : V → Hp → Prop, t σ H G ∧ ∀ v J, G v J → Q v J) :=
  ⟨fun pins s σ H Q I ⟨G, g, q⟩ => thn (h.run pins s σ H G I g) fun u s1 ⟨v, J, I1, r, z⟩ => ⟨v, J, I1, r, q v J z⟩⟩
/-! ### tuples: slices and sums, whatever object they are -/
theorem cut_whole (xs : List V) (lo hi : Option Int) (h : HT.sIx xs.length 0 lo = 0 ∧ HT.sIx xs.length xs.length hi = xs.length) : cutV xs lo hi = xs := by
  unfold cutV
  rw [h.1, h.2, List.drop_zero, Nat.sub_zero, List.take_of_length_le (Nat.le_refl _)]
def rCutS (K : PySem.W.Frag) : V → Option Int → Option Int → Hp → VK → Prop := fun x lo hi H Q => ∃ (a : Addr) (xs : List V), x = .ref a ∧ SqT K H a xs ∧ ∀ (t : Addr) (J : Hp), SqT K J t (cutV xs lo hi) → Same H J → Q (.ref t) J
theorem sl_tupS : SlR X (rCutS X.K) := by
  intro pins s σ H x v vl vu lo hi sl Q I rx hs pl pu h
  obtain ⟨a, xs, rfl, hx, q⟩ := h
  refine sl_tupA pins s σ H _ v vl vu lo hi sl Q I rx hs pl pu ⟨a, xs, rfl, hx, fun z => q a H ?_ (Same.refl H), fun _ p hp => q p _ (SqT.of upd_same) fun b o e => ?_⟩
  · rw [cut_whole xs lo hi z]
    exact hx
  · rw [upd_ne (ne_of_none e hp)]
    exact e
def rCatS (K : PySem.W.Frag) : R2 := fun x y H Q => ∃ (a b : Addr) (xs ys : List V), x = .ref a ∧ y = .ref b ∧ SqT K H a xs ∧ SqT K H b ys ∧ xs.length + ys.length ≤ sizeLine ∧
  ∀ (t : Addr) (J : Hp), SqT K J t (xs ++ ys) → Same H J → Q (.ref t) J
theorem op_catS : OpR X (binaryOp .Add) (rCatS X.K) := by
  intro pins s σ H x y v u Q I rx ry h
  obtain ⟨a, b, xs, ys, rfl, rfl, ha, hb, hz, q⟩ := h
  refine op_catA pins s σ H _ _ v u Q I rx ry ⟨a, b, xs, ys, rfl, rfl, ha, hb, hz, fun e => q b H ?_ (Same.refl H), fun _ e => q a H ?_ (Same.refl H), fun _ _ p hp => q p _ (SqT.of upd_same) fun c o e => ?_⟩
  · rw [e]
    exact hb
  · rw [e, List.append_nil]
    exact ha
  · rw [upd_ne (ne_of_none e hp)]
    exact e
end
/-! ### t[::-1] of a tuple -/
section
variable {prog : Program} {w : World} {A : Around} {E : Value → Shared → Prop} {s : Shared}
theorem back_parts (n : Nat) : Builtin.Slice.sliceAdjust none none (-1) (n : Int) = ((n : Int) - 1, -1) ∧ Builtin.Slice.slicePlaces ((n : Int) - 1) (-1) (-1) = n := by
  constructor
  · unfold Builtin.Slice.sliceAdjust
    simp
  · unfold Builtin.Slice.slicePlaces
    have h1 : ¬ ((-1 : Int) > 0) := by omega
    have h2 : -(-1 : Int) = 1 := rfl
    rw [if_neg h1, h2, Int.ediv_one]
    split <;> omega
theorem fm_congr {α β : Type} {f g : α → Option β} : ∀ l : List α, (∀ x ∈ l, f x = g x) → l.filterMap f = l.filterMap g
  | [], _ => rfl
  | x :: l, h => by
    rw [List.filterMap_cons, List.filterMap_cons, h x List.mem_cons_self, fm_congr l fun y hy => h y (List.mem_cons_of_mem _ hy)]
theorem back_pick (xs : Array Value) : ((List.range xs.size).filterMap fun (k : Nat) => xs[(((xs.size : Int) - 1) + (k : Int) * (-1)).toNat]?).toArray = xs.toList.reverse.toArray := by
  have g := HT.pick_gen xs.reverse 0 xs.size
  rw [List.drop_zero, List.take_of_length_le (by simp)] at g
  rw [Array.toList_reverse] at g
  rw [← g]
  refine congrArg List.toArray (fm_congr _ fun k hk => ?_)
  have hk' : k < xs.size := List.mem_range.mp hk
  have e1 : (((xs.size : Int) - 1) + (k : Int) * (-1)).toNat = xs.size - 1 - k := by omega
  have e2 : (((0 : Nat) : Int) + (k : Int) * 1).toNat = k := by omega
  rw [e1, e2, Array.getElem?_reverse hk']
theorem back_applied {c : Addr} {st : Value} {n : Nat} {Q : Int × Int × Nat → Shared → Prop} (hS : s.heap.IsSliceOf c .none .none st) (hp : IsPart st (some (-1))) (h : Q ((n : Int) - 1, -1, n) s) :
    wpAny (model prog w) A (Builtin.Slice.sliceApplied (.ref c) (pure (n : Int))) Q E s := by
  obtain ⟨ob, o1, o2, o3⟩ := id hS
  unfold Builtin.Slice.sliceApplied Builtin.Slice.sliceFields
  refine wpAny_bind (wpAny_bind (wpAny_field o1 o3 (x := .none) rfl (wpAny_bind (wpAny_field o1 o3 (x := .none) rfl (wpAny_bind (wpAny_field o1 o3 (x := st) rfl (wpAny_pure ?_)))))))
  refine wpAny_bind (HT.slicePart_ hp ?_)
  show wpAny _ _ (if ((-1 : Int) == 0) = true then _ else _) _ _ s
  rw [if_neg (by decide)]
  refine wpAny_bind (slicePart_none (wpAny_bind (slicePart_none (wpAny_bind (wpAny_pure ?_)))))
  show wpAny _ _ (match Builtin.Slice.sliceAdjust none none (-1) (n : Int) with | (lo, hi) => pure (lo, (-1 : Int), Builtin.Slice.slicePlaces lo hi (-1))) _ _ s
  rw [(back_parts n).1]
  show wpAny _ _ (pure ((n : Int) - 1, (-1 : Int), Builtin.Slice.slicePlaces ((n : Int) - 1) (-1) (-1))) _ _ s
  rw [(back_parts n).2]
  exact wpAny_pure h
theorem getItem_back {t c : Addr} {its : Array Value} {st : Value} {Q : Value → Shared → Prop} (hT : IsTup s.heap t its) (hS : s.heap.IsSliceOf c .none .none st) (hp : IsPart st (some (-1))) (hz : its.size ≤ sizeLine)
    (h : Q (.ref s.heap.objs.size) { s with heap := s.heap.push { cls := .type "tuple", data := .seq its.toList.reverse.toArray } }) : wpAny (model prog w) A (getItem (.ref t) (.ref c)) Q E s := by
  have fits : sizeOk (.seq its.toList.reverse.toArray) := by
    show its.toList.reverse.toArray.size ≤ sizeLine
    rw [List.size_toArray, List.length_reverse, Array.length_toList]
    exact hz
  obtain ⟨ob, o1, o2, o3⟩ := id hS
  have isS : s.TypeIs (.ref c) "slice" := ⟨ob, o1, o2⟩
  unfold getItem
  try with_reducible refine wpAny_holding ?_
  first | refine wpAny_bind (wpAny_pure ?_) | skip
  refine wpAny_bind (wpAny_sequenceKey hT.typeIs (by decide) ?_)
  have sl := PyProof.Rows.slot_tuple_getitem
  refine wpAny_bind (wpAny_callSpecial?_slot (name := Str.ofString "__getitem__") hT.typeIs sl (wpAny_call_entry sl hT.typeIs PyProof.Rows.entry_tuple_getitem ?_ (PyProof.Rows.args_tuple_getitem _ _)))
  show wpAny _ _ (Builtin.Tuple.tupleItemsOf (.ref t) >>= _) _ _ s
  refine wpAny_bind (PyProof.Rows.tupleItemsOf_ hT (wpAny_bind (wpAny_typeOf isS ?_)))
  rw [if_pos (by decide)]
  refine wpAny_bind (back_applied hS hp ?_)
  show wpAny _ _ (if ((((its.size : Nat) : Int) - 1 == 0 && (-1 : Int) == 1 && its.size == its.size) = true) then _ else _) _ _ s
  have no : ¬ ((((its.size : Nat) : Int) - 1 == 0 && (-1 : Int) == 1 && its.size == its.size) = true) := by simp
  rw [if_neg no, back_pick]
  first
    | exact wpAny_bind (m := Builtin.Tuple.tupleExact _) (wpAny_newObj_type (wpAny_pure ⟨_, rfl, wpAny_pure h⟩) fits)
    | exact wpAny_bind (m := Builtin.Tuple.tupleExact _) (wpAny_newObj_type (wpAny_bind (wpAny_pure (wpAny_pure ⟨_, rfl, wpAny_pure h⟩))) fits)
    | exact wpAny_bind (wpAny_bind (m := Builtin.Tuple.tupleExact _) (wpAny_newObj_type (wpAny_pure (wpAny_pure ⟨_, rfl, wpAny_pure h⟩)) fits))
    | exact wpAny_bind (wpAny_bind (m := Builtin.Tuple.tupleExact _) (wpAny_newObj_type (wpAny_pure ⟨_, rfl, wpAny_pure h⟩) fits))
end
section
variable {X : Cx}
def tBackT (K : PySem.W.Frag) (te : TE) : TE := fun σ H Q => te σ H fun x J => ∃ (a : Addr) (xs : List V), x = .ref a ∧ SqT K J a xs ∧ ∀ p, J p = none → Q (.ref p) (upd J p (.tup xs.reverse))
theorem pe_revT {e : Expr} {te : TE} {k : Nat} {p1 p2 p3 pos : Pos} (he : PE X e te) : PE X (.Subscript e (.Slice none none (some (.UnaryOp .USub (.Constant (.int 1) k p1) p2)) p3) pos) (tBackT X.K te) := by
  refine ⟨fun pins s σ H Q I h => Subscript_ (thn (he.run pins s σ H _ I h) fun v s1 ⟨x, H1, I1, r1, a, xs, ex, hx, q⟩ => ?_)⟩
  subst ex
  cases r1
  have step : PO X (some (.UnaryOp .USub (.Constant (.int 1) k p1) p2)) _ := po_some (pe_un un_neg pe_int)
  refine wpAny_Slice (thn (po_none.run pins s1 σ H1 (fun o L => o = none ∧ L = H1) I1 ⟨rfl, rfl⟩) fun vl s2 ⟨l, H2, I2, pl, el, e2⟩ => ?_)
  subst el e2
  refine thn (po_none.run pins s2 σ H2 (fun o L => o = none ∧ L = H2) I2 ⟨rfl, rfl⟩) fun vu s3 ⟨u, H3, I3, pu, eu, e3⟩ => ?_
  subst eu e3
  refine thn (step.run pins s3 σ H3 (fun o L => o = some (-1) ∧ L = H3) I3 ⟨1, rfl, -1, rfl, rfl, rfl⟩) fun vs s4 ⟨o, H4, I4, ps, eo, e4⟩ => ?_
  subst eo e4
  cases pl
  cases pu
  have I5 : Inv X pins σ H4 { s4 with heap := s4.heap.push { cls := .type "slice", data := .fields #[.none, .none, vs] } } := I4.kept (t' := s4.toks) fun b ob z => Heap.get?_push_of_some _ z
  obtain ⟨its, r, isT, hz⟩ := I5.tuple hx
  have hlen := r.length
  show wpAny (model X.prog X.w) X.A (subscriptTail e (.Slice none none (some (.UnaryOp .USub (.Constant (.int 1) k p1) p2)) p3) (.ref a) (.ref s4.heap.objs.size)) (EP X pins σ Q) X.xe { s4 with heap := s4.heap.push { cls := .type "slice", data := .fields #[.none, .none, vs] } }
  refine tail_any (ops := [.ref a, .ref s4.heap.objs.size]) isT.typeIs PyProof.Rows.slot_tuple_getitem.lookup ?_ (by with_unfolding_all rfl)
  refine getItem_back isT (Heap.IsSliceOf.new _ .none .none vs) ps (by rw [List.size_toArray]; omega) ?_
  refine ⟨.ref _, _, I5.laid (t' := s4.toks) (o := .tup xs.reverse) (fun b ob z => Heap.get?_push_of_some _ z) (Nat.le_refl _) ?_, rfl, q _ (I5.hok.fresh (Nat.le_refl _))⟩
  exact ⟨by rw [List.length_reverse]; exact hz, its.reverse, r.reverse, _, Heap.get?_push_size _ rfl, rfl, _, rfl⟩
end
/-! ### x in a tuple of data -/
section
variable {X : Cx}
def rInT (K : PySem.W.Frag) : R2 := fun x y H Q => ∃ d ds, Dp K H x d ∧ Dp K H y (.tuple ds) ∧ SeqAt.shaped d = true ∧ SeqAt.shaped (.tuple ds) = true ∧ Q (.bl (ds.any fun z => PyData.eqv z d)) H
theorem op_inT (hu : X.A.units + 65 < cLine) : OpR X (compareOp .In) (rInT X.K) := by
  intro pins s σ H x y v u Q I rx ry h
  obtain ⟨d, ds, hd, he, sd, se, q⟩ := h
  obtain ⟨as, r1⟩ := Dp.reads I d x v hd rx
  obtain ⟨bs, r2⟩ := Dp.reads I (.tuple ds) y u he ry
  exact SeqAt.in_tuple_reads r2 r1 (SeqAt.canLay_of_shaped se) (SeqAt.canLay_of_shaped sd) (room_in_shaped sd hu) ⟨.bl _, H, I, rfl, q⟩
end
/-- a tuple of the module's own -/
def TupOf (o : Obj) (xs : List V) : Prop := ∃ (its : Array Value) (n : Nat), o.cls = .type "tuple" ∧ o.data = .seq its n ∧ its.size ≤ sizeLine ∧ Vals xs its.toList
theorem TupOf.sq {K : PySem.W.Frag} {a : Addr} {o : Obj} {xs : List V} (t : TupOf o xs) (h : K.lookup a = some o) : SqT K (fun _ => none) a xs := by
  obtain ⟨its, n, c, d, z, r⟩ := t
  exact Or.inr ⟨o, its, n, h, c, d, z, r⟩
theorem sq_any {K : PySem.W.Frag} {H : Hp} {a : Addr} {xs : List V} (h : SqT K (fun _ => none) a xs) : SqT K H a xs := sameT (fun _ _ z => by cases z) h
theorem hu65 {A : Around} {k : Nat} (hr : Room k A) : A.units + 65 < cLine := by
  have := hr.un
  omega
/-! ### rules with the written part said, for what stands in a comprehension -/
section
variable {X : Cx}
def rLenK (K : PySem.W.Frag) : List V → Hp → VK → Prop := fun xs H Q => ∃ p ys, xs = [V.ref p] ∧ (SqL K H p ys ∨ SqT K H p ys) ∧ Q (.int ys.length) H
theorem lenK (K : PySem.W.Frag) (h : X.K = K) : CallR X (.builtin "len") (rLenK K) := h ▸ call_len_seq
theorem ixLK (K : PySem.W.Frag) (h : X.K = K) : IxR X (rIxL K) := h ▸ ix_list
theorem ixTK (K : PySem.W.Frag) (h : X.K = K) : IxR X (rIxT K) := h ▸ ix_tup
theorem isDK (K : PySem.W.Frag) (T : String) (hT : T ∈ ["tuple", "int", "bool", "str", "list"]) (h : X.K = K) : CallR X (.builtin "isinstance") (rIsD K T) := h ▸ call_isD T hT
theorem catSK (K : PySem.W.Frag) (h : X.K = K) : OpR X (binaryOp .Add) (rCatS K) := h ▸ op_catS
theorem inK (K : PySem.W.Frag) (h : X.K = K) : OpR X (compareOp .In) (rIn K false) := h ▸ op_in_seq
theorem notInK (K : PySem.W.Frag) (h : X.K = K) : OpR X (compareOp .NotIn) (rIn K true) := h ▸ op_notIn_seq
theorem slSK (K : PySem.W.Frag) (h : X.K = K) : SlR X (rCutS K) := h ▸ sl_tupS
end
/-! ### what may change while a script is drawn from, and while code runs that has tables -/
/-- the heap without the tables of code: where data stands -/
def offT (H : Hp) : Hp := fun b => match H b with
  | some (.tbl _) => none
  | o => o
theorem offT_at {b : Addr} {H : Hp} {o : HO} (h : H b = some o) (nt : ∀ q, o ≠ .tbl q := by intro _ z; cases z) : offT H b = some o := by
  unfold offT
  rw [h]
  cases o <;> first | rfl | exact absurd rfl (nt _)
theorem offT_some {b : Addr} {H : Hp} {o : HO} (h : offT H b = some o) : H b = some o ∧ ∀ q, o ≠ .tbl q := by
  unfold offT at h
  cases e : H b with
  | none => rw [e] at h; cases h
  | some u =>
    rw [e] at h
    cases u <;> first | (cases h; done) | (cases h; exact ⟨rfl, fun _ z => by cases z⟩)
/-- the heap without p and the tables of code: where data stands that does not change -/
def off (p : Addr) (H : Hp) : Hp := fun b => if b = p then none else offT H b
theorem off_at {p b : Addr} {H : Hp} {o : HO} (n : b ≠ p) (h : H b = some o) (nt : ∀ q, o ≠ .tbl q := by intro _ z; cases z) : off p H b = some o := by
  unfold off
  rw [if_neg n]
  exact offT_at h nt
theorem off_same {p : Addr} {H : Hp} : off p H p = none := if_pos rfl
theorem off_none {p b : Addr} {H : Hp} (h : H b = none) : off p H b = none := by
  unfold off offT
  rw [h]
  split <;> rfl
theorem off_some {p b : Addr} {H : Hp} {o : HO} (h : off p H b = some o) : b ≠ p ∧ H b = some o ∧ ∀ q, o ≠ .tbl q := by
  by_cases e : b = p
  · rw [e, off_same] at h
    cases h
  · unfold off at h
    rw [if_neg e] at h
    exact ⟨e, offT_some h⟩
theorem off_in {p : Addr} {H : Hp} : Same (off p H) H := fun b o h => (off_some h).2.1
theorem offT_in {H : Hp} : Same (offT H) H := fun b o h => (offT_some h).1
/-- tables only grow -/
def Tabs (H J : Hp) : Prop := ∀ b q, H b = some (.tbl q) → ∃ q', J b = some (.tbl q') ∧ (TriplesOk q.toList → TriplesOk q'.toList)
theorem Tabs.trans {H J L : Hp} (a : Tabs H J) (b : Tabs J L) : Tabs H L := fun c q e => let ⟨q', e', f⟩ := a c q e; let ⟨q2, e2, f2⟩ := b c q' e'; ⟨q2, e2, fun z => f2 (f z)⟩
theorem Tabs.of_same {H J : Hp} (h : Same H J) : Tabs H J := fun b q e => ⟨q, h _ _ e, id⟩
theorem Tabs.tab {H J : Hp} (h : Tabs H J) {P : Addr} (g : GxR.TabG H P) : GxR.TabG J P := let ⟨q, e, z⟩ := g; let ⟨q', e', f⟩ := h P q e; ⟨q', e', f z⟩
theorem Tabs.put {q : Addr} {G J : Hp} {o : HO} (h : Tabs G J) (n : G q = none) : Tabs G (upd J q o) := fun b x e => by
  rw [upd_ne (ne_of_none e n)]
  exact h b x e
/-- all data is as it was, tables of code may have grown -/
structure Grow (H J : Hp) : Prop where
  s : Same (offT H) (offT J)
  t : Tabs H J
theorem Grow.refl (H : Hp) : Grow H H := ⟨Same.refl _, Tabs.of_same (Same.refl _)⟩
theorem Grow.trans {H J L : Hp} (a : Grow H J) (b : Grow J L) : Grow H L := ⟨a.s.trans b.s, a.t.trans b.t⟩
theorem Grow.of_same {H J : Hp} (h : Same H J) : Grow H J := ⟨fun b u e => let z := offT_some e; offT_at (h _ _ z.1) z.2, Tabs.of_same h⟩
theorem Grow.new {q : Addr} {H : Hp} {o : HO} (h : H q = none) : Grow H (upd H q o) := Grow.of_same fun b u e => by
  rw [upd_ne (ne_of_none e h)]
  exact e
theorem Grow.at {a : Addr} {H J : Hp} {o : HO} (k : Grow H J) (h : H a = some o) (nt : ∀ q, o ≠ .tbl q := by intro _ z; cases z) : J a = some o := (offT_some (k.s a o (offT_at h nt))).1
theorem Grow.write {q : Addr} {G J : Hp} {o : HO} (k : Grow G J) (h : G q = none) : Grow G (upd J q o) :=
  ⟨fun b u e => let z := offT_some e; offT_at (by rw [upd_ne (ne_of_none z.1 h)]; exact k.at z.1 z.2) z.2, k.t.put h⟩
theorem Grow.tabbed {P : Addr} {H J : Hp} (g : GxR.TabG H P) (h : GxR.Tabbed P H J) : Grow H J := by
  obtain ⟨⟨q', e', z'⟩, k⟩ := h
  obtain ⟨q, e, _⟩ := g
  refine ⟨fun b u eb => ?_, fun b x eb => ?_⟩
  · have y := offT_some eb
    have bp : b ≠ P := fun w => by
      rw [w, e] at y
      exact y.2 q (Option.some.inj y.1).symm
    exact offT_at (by rw [k b bp]; exact y.1) y.2
  · by_cases bp : b = P
    · rw [bp]
      exact ⟨q', e', fun _ => z'⟩
    · exact ⟨x, by rw [k b bp]; exact eb, id⟩
theorem Grow.free {q : Addr} {H J : Hp} (k : Grow H J) (h : J q = none) : H q = none := by
  cases e : H q with
  | none => rfl
  | some o =>
    cases o with
    | tbl x =>
      obtain ⟨x', e', _⟩ := k.t q x e
      rw [e'] at h
      cases h
    | _ =>
      rw [k.at e] at h
      cases h
theorem Grow.seq {K : PySem.W.Frag} {a : Addr} {H J : Hp} {xs : List V} (k : Grow H J) (h : SqL K H a xs) : SqL K J a xs := by
  rcases h with (h | ⟨o, h⟩) | h
  · exact Or.inl (Or.inl (k.at h))
  · exact Or.inl (Or.inr ⟨o, k.at h⟩)
  · exact Or.inr h
theorem Grow.tup {K : PySem.W.Frag} {a : Addr} {H J : Hp} {xs : List V} (k : Grow H J) (h : SqT K H a xs) : SqT K J a xs := by
  rcases h with (h | ⟨o, h⟩) | h
  · exact Or.inl (Or.inl (k.at h))
  · exact Or.inl (Or.inr ⟨o, k.at h⟩)
  · exact Or.inr h
/-- all but p and the tables is as it was, and p's first item is the same object -/
structure Keep (p : Addr) (H J : Hp) : Prop where
  s : Same (off p H) (off p J)
  h : ∀ (l : Addr) (r : List V), H p = some (.lst (.ref l :: r)) → ∃ r', J p = some (.lst (.ref l :: r'))
  t : Tabs H J
theorem Keep.refl (p : Addr) (H : Hp) : Keep p H H := ⟨Same.refl _, fun _ r h => ⟨r, h⟩, Tabs.of_same (Same.refl _)⟩
theorem Keep.trans {p : Addr} {H J L : Hp} (a : Keep p H J) (b : Keep p J L) : Keep p H L := ⟨a.s.trans b.s, fun l r h => let ⟨r', h'⟩ := a.h l r h; b.h l r' h', a.t.trans b.t⟩
theorem Keep.put {p l : Addr} {H : Hp} {r r' : List V} (h : H p = some (.lst (.ref l :: r))) : Keep p H (upd H p (.lst (.ref l :: r'))) := by
  refine ⟨fun b u e => ?_, fun m z e => ?_, fun b q e => ?_⟩
  · have q := off_some e
    exact off_at q.1 (by rw [upd_ne q.1]; exact q.2.1) q.2.2
  · rw [h] at e
    cases e
    exact ⟨r', upd_same⟩
  · have n : b ≠ p := fun z => by
      rw [z, h] at e
      cases e
    exact ⟨q, by rw [upd_ne n]; exact e, id⟩
theorem Keep.of_grow {p : Addr} {H J : Hp} (g : Grow H J) : Keep p H J := by
  refine ⟨fun b u e => ?_, fun l r e => ⟨r, g.at e⟩, g.t⟩
  have z := off_some e
  exact off_at z.1 (g.at z.2.1 z.2.2) z.2.2
theorem Keep.of_same {p : Addr} {H J : Hp} (h : Same H J) : Keep p H J := Keep.of_grow (Grow.of_same h)
theorem Keep.new {p q : Addr} {H : Hp} {o : HO} (h : H q = none) : Keep p H (upd H q o) := Keep.of_same fun b u e => by
  rw [upd_ne (ne_of_none e h)]
  exact e
theorem Keep.at {p a : Addr} {H J : Hp} {o : HO} (k : Keep p H J) (n : a ≠ p) (h : H a = some o) (nt : ∀ q, o ≠ .tbl q := by intro _ z; cases z) : J a = some o :=
  (off_some (k.s a o (off_at n h nt))).2.1
/-- an object that was not yet there is changed -/
theorem Keep.write {p q : Addr} {G J : Hp} {o : HO} (k : Keep p G J) (h : G q = none) (n : q ≠ p) : Keep p G (upd J q o) := by
  refine ⟨fun b u e => ?_, fun m r e => ?_, k.t.put h⟩
  · have z := off_some e
    exact off_at z.1 (by rw [upd_ne (ne_of_none z.2.1 h)]; exact k.at z.1 z.2.1 z.2.2) z.2.2
  · obtain ⟨r', q⟩ := k.h m r e
    exact ⟨r', by rw [upd_ne n.symm]; exact q⟩
theorem seq_off {K : PySem.W.Frag} {p a : Addr} {H : Hp} {xs : List V} (n : a ≠ p) (h : SqL K H a xs) : SqL K (off p H) a xs := by
  rcases h with (h | ⟨o, h⟩) | h
  · exact Or.inl (Or.inl (off_at n h))
  · exact Or.inl (Or.inr ⟨o, off_at n h⟩)
  · exact Or.inr h
theorem Keep.seq {K : PySem.W.Frag} {p a : Addr} {H J : Hp} {xs : List V} (k : Keep p H J) (n : a ≠ p) (h : SqL K H a xs) : SqL K J a xs := off_in.seq (k.s.seq (seq_off n h))
theorem tup_off {K : PySem.W.Frag} {p a : Addr} {H : Hp} {xs ys : List V} (hp : H p = some (.lst ys)) (h : SqT K H a xs) : SqT K (off p H) a xs := by
  rcases h with (h | ⟨o, h⟩) | h
  · exact Or.inl (Or.inl (off_at (ne_of h hp (by intro z; cases z)) h))
  · exact Or.inl (Or.inr ⟨o, off_at (ne_of h hp (by intro z; cases z)) h⟩)
  · exact Or.inr h
/-! ### tuple(e for x in range(..) if t): numbers, told by the place -/
section
variable {X : Cx}
theorem cr_rangeOne : CallR X (.type "range") (fun vs H Q => ∃ j : Int, vs = [.int j] ∧ ∀ p, H p = none → Q (.ref p) (upd H p (.rng 0 j))) := by
  intro pins s σ H vs us Q I r h
  obtain ⟨j, rfl, q⟩ := h
  obtain ⟨u, rfl, t, rfl⟩ := vals1 r
  refine call_range_1 ⟨.ref s.heap.objs.size, upd H s.heap.objs.size (.rng 0 j), I.laid (t' := s.toks + 1 + 1) (fun b o e => Heap.get?_push_of_some _ e) (Nat.le_refl _) ?_, rfl, q _ (I.hok.fresh (Nat.le_refl _))⟩
  exact ⟨s.toks, t, s.toks + 1, Heap.get?_push_size _ rfl⟩
theorem cr_rangeTwo : CallR X (.type "range") (fun vs H Q => ∃ i j : Int, vs = [.int i, .int j] ∧ ∀ p, H p = none → Q (.ref p) (upd H p (.rng i j))) := by
  intro pins s σ H vs us Q I r h
  obtain ⟨i, j, rfl, q⟩ := h
  obtain ⟨u1, u2, rfl, ⟨t, rfl⟩, ⟨u, rfl⟩⟩ := vals2 r
  refine call_range_2 ⟨.ref s.heap.objs.size, upd H s.heap.objs.size (.rng i j), I.laid (t' := s.toks + 1) (fun b o e => Heap.get?_push_of_some _ e) (Nat.le_refl _) ?_, rfl, q _ (I.hok.fresh (Nat.le_refl _))⟩
  exact ⟨t, u, s.toks, Heap.get?_push_size _ rfl⟩
end
theorem vals_at {f : Nat → Int} : ∀ (l : List Nat) (us : List Value), us.length = l.length → (∀ (j : Nat) (v : Value), us[j]? = some v → ∃ i, l[j]? = some i ∧ ∃ t, v = .int (f i) t) → Vals (l.map fun i => V.int (f i)) us
  | [], [], _, _ => .nil
  | [], _ :: _, h, _ => by simp at h
  | _ :: _, [], h, _ => by simp at h
  | i :: l, u :: us, h, g => by
    obtain ⟨i', e, t, ht⟩ := g 0 u rfl
    have e' : i = i' := Option.some.inj e
    rw [List.map_cons]
    refine .cons (by rw [e']; exact ⟨t, ht⟩) (vals_at l us (by simpa using h) fun j v hv => ?_)
    obtain ⟨k, e2, z⟩ := g (j + 1) v hv
    exact ⟨k, e2, z⟩
/-- the tests and the element of a generator expression, at its i-th place, wherever its frame stands -/
def ElemOk (X : Cx) (scope : Scope) (x : Str) (ifs : List Expr) (elt : Expr) (lo : Int) (n : Nat) (pz : Nat → Bool) (f : Nat → Int) (P : Addr) (s1 : Shared) : Prop :=
  ∀ (cenv : Env) (A' : Around) (E' : Value → Shared → Prop) (i : Nat) (t : Tok) (s2 : Shared) (m2 : Str → Option Value), i < n → cenv.scope = scope → cenv.cells = cloFrom X.env.cells scope.names [] → A'.handled = none →
    s2.heap.Ns cenv.locals m2 → m2 x = some (.int (lo + i) t) → (∀ b o, b ≠ P → s1.heap.get? b = some o → s2.heap.get? b = some o) →
      wpAny (model X.prog X.w) A' (forIn ifs true fun c r => if r = true then do let ok ← isTrue c cenv (eval c cenv); pure (ForInStep.yield ok) else pure (ForInStep.yield r)) (fun ok s3 => ok = pz i ∧ PySem.Keeps s2 s3) E' s2 ∧
      (pz i = true → wpAny (model X.prog X.w) A' (eval elt cenv) (fun y s3 => (∃ u, y = .int (f i) u) ∧ PySem.Keeps s2 s3) E' s2)
def tTupG (X : Cx) (P : Addr) (scope : Scope) (x : Str) (ifs : List Expr) (elt : Expr) (te : TE) : TE := fun σ H Q => te σ H fun v H1 => ∃ (r : Addr) (lo hi : Int) (pz : Nat → Bool) (f : Nat → Int), v = .ref r ∧ H1 r = some (.rng lo hi) ∧ -(2 ^ 62) ≤ lo ∧ lo < 2 ^ 62 ∧ -(2 ^ 62) ≤ hi ∧ hi < 2 ^ 62 ∧
  (hi - lo).toNat ≤ sizeLine ∧ GxR.TabG H1 P ∧ (∀ pins s1, Inv X pins σ H1 s1 → ElemOk X scope x ifs elt lo (hi - lo).toNat pz f P s1) ∧
  ∀ (t : Addr) (H2 : Hp), GxR.Tabbed P H1 H2 → H2 t = none → Q (.ref t) (upd H2 t (.tup (((List.range (hi - lo).toNat).filter pz).map fun i => V.int (f i))))
section
variable {X : Cx}
theorem pe_tupG {c P : Addr} {elt iter : Expr} {ifs : List Expr} {x : Str} {px p pos gpos : Pos} {scope : Scope} {te : TE} {k : Nat}
    (hr : Room k X.A) (hg : Gl X "tuple") (hm : X.mg "tuple" = none) (TB : GxR.TabB X.base X.mg c P) (hcode : X.env.code = .ref c) (S : GxR.GenS X.env scope x) (hi : PE X iter te) (hs : ∀ v, genFold iter X.env v = pure v)
    (hc : X.calm = true) (he : starEach [.GeneratorExp elt [⟨.Name x px, iter, ifs, 0⟩] scope gpos] X.env = (false, eval (.GeneratorExp elt [⟨.Name x px, iter, ifs, 0⟩] scope gpos) X.env) :: starEach [] X.env := by rfl) :
    PE X (.Call (.Name "tuple" p) [.GeneratorExp elt [⟨.Name x px, iter, ifs, 0⟩] scope gpos] [] pos) (tTupG X P scope x ifs elt te) := by
  refine ⟨fun pins s σ H Q I h => ?_⟩
  refine wpAny_Call_Name_kw (ld_blt I hg hm (show bootBuiltins "tuple" = some (.type "tuple") by decide +kernel) ?_)
  refine PyProof.Rows.callWith_type1 ?_ he (by rfl)
  rw [he]
  show wpAny _ _ (spliced ((false, eval (.GeneratorExp elt [⟨.Name x px, iter, ifs, 0⟩] scope gpos) X.env) :: backTo pos (starEach [] X.env))) _ _ s
  refine Calls.spliced_cons ?_
  refine wpAny_GeneratorExp_walksQ (I.ok.hd hc) S.co (closure_ok S.free) S.cell S.dot S.loc S.kind (by have := hr.dp; omega) ?_ hs
  refine thn (hi.run pins s σ H _ I h) fun xv s1 ⟨v, H1, I1, r1, r, lo, hi', pz, f, ev, hR, b1, b2, b3, b4, hz, ⟨ps, hP, ht⟩, hE, q⟩ => ?_
  subst ev
  cases r1
  obtain ⟨ta, tb, tc, hRo⟩ := I1.hok r _ hR
  refine wpAny_pyIter_range hRo (small_one b1 b2 b3 b4) ?_
  have hn : Builtin.Range.rangeSize lo hi' 1 = ((hi' - lo).toNat : Int) := by
    rw [rangeSize_one]
    split <;> omega
  rw [hn]
  generalize hO : ({ cls := .type "range_iterator", data := .fields #[rawInt lo, rawInt ((hi' - lo).toNat : Int), rawInt 1] } : Obj) = ob
  have hIt : IsRangeIter (s1.heap.push ob) s1.heap.objs.size lo ((hi' - lo).toNat : Int) 1 := by
    rw [← hO]
    exact Heap.get?_push_size _ rfl
  have gP : s1.heap.get? P = some { cls := .none, data := .fields ps } := I1.hok P _ hP
  have Plt : P < s1.heap.objs.size := Heap.lt_size gP
  have gP2 : (s1.heap.push ob).get? P = some { cls := .none, data := .fields ps } := Heap.get?_push_of_some _ gP
  have cd : PySem.W.CodeHd (s1.heap.push ob) c P := TB.code.keeps fun b u e => Heap.get?_push_of_some _ (I1.bk b u e)
  have lim2 : (s1.heap.push ob).NoLimit := I1.nolimit.push ob
  have main : ∀ (code : Value) (h3 : Heap) (tk : Nat) (qs : Array Value), Heap.ExtBut P (s1.heap.push ob) h3 → (s1.heap.push ob).objs.size ≤ h3.objs.size → h3.get? P = some { cls := .none, data := .fields qs } → (∃ more, qs = ps ++ more) → TriplesOk qs.toList →
      wpAny (model X.prog X.w) X.A (builtinsFor X.env.globals X.env.builtins) (fun bi s4 =>
        ∃ Ia fp wr n0 Pf St0 pz F, Value.ref s1.heap.objs.size = .ref Ia ∧ (∀ A' : Around, A'.handled = none → Walks X.prog X.w A' Ia fp wr n0 Pf St0) ∧ St0 0 s4.heap ∧ (∀ b ∈ fp, b < s4.heap.objs.size) ∧ s4.heap.NoLimit ∧ cStatics ∉ wr ∧
          (∀ href : Heap, (∀ b o, s4.heap.get? b = some o → href.get? b = some o) →
            QuietGen X.prog X.w (genEnv scope (cloFrom X.env.cells scope.names []) s4.heap.objs.size code bi X.env) x ifs elt (List.range s4.heap.objs.size) wr Pf pz F href) ∧
          (∀ a h5 tk gs, gs.bare = true → s4.heap.objs.size < a → h5.objs.size = a + 1 → (∀ b o, s4.heap.get? b = some o → h5.get? b = some o) →
            WalksS X.prog X.w X.A.in4 a (a :: s4.heap.objs.size :: List.range s4.heap.objs.size) (s4.heap.objs.size :: wr) (GenOnlyQ s4.gens.size) (passing pz n0 0).length
              (fun j y => ∃ i, (passing pz n0 0)[j]? = some i ∧ F i y) (GenAt X.prog X.w X.A.in4 a s4.gens.size s4.heap.objs.size (List.range s4.heap.objs.size) wr pz n0 F) →
            GenAt X.prog X.w X.A.in4 a s4.gens.size s4.heap.objs.size (List.range s4.heap.objs.size) wr pz n0 F 0 { s4 with gens := s4.gens.push gs, toks := tk, heap := h5 } →
            wpAny (model X.prog X.w) X.A (spliced (backTo pos (starEach [] X.env)))
              (fun a_1 s' => wpAny (model X.prog X.w) X.A (call (.type "tuple") (.ref a :: a_1)) (EP X pins σ Q) X.xe s') X.xe { s4 with gens := s4.gens.push gs, toks := tk, heap := h5 })) X.xe { s1 with heap := h3, toks := tk } := by
    intro code h3 tk qs hx hsz gP3 hmore ht3
    obtain ⟨bm, bo, e1, e2, e3, e4, e5, e6, e7, e8⟩ := TB.bm
    have csP : cStatics ≠ P := fun e => by
      obtain ⟨_, hns, _⟩ := I1.nolimit
      obtain ⟨o', es, ep, ho, hd, _⟩ := hns
      rw [e, gP] at ho
      cases ho
      cases hd
    have cl : cStatics < s1.heap.objs.size := let ⟨_, hns, _⟩ := I1.nolimit; hns.lt
    have sz2 : (s1.heap.push ob).objs.size = s1.heap.objs.size + 1 := Heap.size_push ..
    have kp3 : ∀ b u, b ≠ P → s1.heap.get? b = some u → h3.get? b = some u := fun b u hb e => hx b u hb (Heap.get?_push_of_some _ e)
    refine wpAny_builtinsFor (m := X.mg) (by rw [I1.ok.glob]; exact ((I1.mod.glob.keeps I1.bk).push ob).extBut hx TB.gP) e1 e2 (kp3 _ _ e4 (I1.bk _ _ e5)) e6 e7 e8 ?_
    refine ⟨s1.heap.objs.size, [s1.heap.objs.size], [s1.heap.objs.size], (hi' - lo).toNat, (fun i v => i < (hi' - lo).toNat ∧ ∃ t, v = .int (lo + (i : Nat) * 1) t), _, pz, (fun i y => ∃ u, y = .int (f i) u), rfl, (fun A' hA => (Walks.range hA _ lo 1 _).bound), ?_, ?_, lim2.extBut hx csP, ?_, ?_, ?_⟩
    · show IsRangeIter h3 s1.heap.objs.size (lo + ((0 : Nat) : Int) * 1) (((hi' - lo).toNat : Int) - ((0 : Nat) : Int)) 1
      have z1 : lo + ((0 : Nat) : Int) * 1 = lo := by simp
      have z2 : ((hi' - lo).toNat : Int) - ((0 : Nat) : Int) = ((hi' - lo).toNat : Int) := by simp
      rw [z1, z2]
      exact hx _ _ (Nat.ne_of_gt Plt) hIt
    · intro b hb
      rw [List.mem_singleton.mp hb]
      show s1.heap.objs.size < h3.objs.size
      omega
    · intro z
      exact Nat.ne_of_lt cl (List.mem_singleton.mp z)
    · intro href hh
      have old : ∀ (s2 : Shared), (∀ b ∈ List.range h3.objs.size, b ∉ [s1.heap.objs.size] → ∀ o, href.get? b = some o → s2.heap.get? b = some o) → ∀ b o, b ≠ P → s1.heap.get? b = some o → s2.heap.get? b = some o := fun s2 hk b o hb e => by
        have lt1 := Heap.lt_size e
        refine hk b (List.mem_range.mpr (Heap.lt_size (kp3 b o hb e))) (fun z => ?_) o (hh b o (kp3 b o hb e))
        rw [List.mem_singleton.mp z] at lt1
        exact Nat.lt_irrefl _ lt1
      refine ⟨fun A' E' i v s2 m2 hA hv hns hm2 hk => ?_, fun A' E' i v s2 m2 hA hv hp hns hm2 hk => ?_⟩
      · obtain ⟨hi1, t, rfl⟩ := hv
        exact (hE pins s1 I1 _ A' E' i t s2 m2 hi1 rfl rfl hA hns (by rw [hm2]; simp) (old s2 hk)).1
      · obtain ⟨hi1, t, rfl⟩ := hv
        exact (hE pins s1 I1 _ A' E' i t s2 m2 hi1 rfl rfl hA hns (by rw [hm2]; simp) (old s2 hk)).2 hp
    · intro g h5 tk5 gs bare hlt5 hsz5 hk5 W5 g0
      refine Calls.spliced_nil ?_
      have len0 : (passing pz (hi' - lo).toNat 0) = (List.range (hi' - lo).toNat).filter pz := by
        unfold passing
        rw [List.drop_zero]
      refine call_tuple_gen W5.in4_3 (fun i s9 h9 => h9.1.typeIs) g0 (fun b hb => ?_) List.mem_cons_self (fun s' acc hm' hacc => ?_) ?_
      · show b < h5.objs.size
        have a5 : h5.objs.size = g + 1 := hsz5
        have a6 : h3.objs.size < g := hlt5
        rw [a5]
        rcases List.mem_cons.mp hb with z | z
        · rw [z]
          exact Nat.lt_succ_self g
        · rcases List.mem_cons.mp z with z | z
          · rw [z]
            exact Nat.lt_succ_of_lt a6
          · have z2 : b < h3.objs.size := List.mem_range.mp z
            exact Nat.lt_succ_of_lt (Nat.lt_trans z2 a6)
      · obtain ⟨more, em⟩ := hmore
        have nw : ∀ b u, s1.heap.get? b = some u → b ∉ h3.objs.size :: [s1.heap.objs.size] := fun b u e hb => by
          have hl := Heap.lt_size e
          rcases List.mem_cons.mp hb with z | z
          · rw [z] at hl
            have h9 : (h3.objs.size : Nat) < s1.heap.objs.size := hl
            omega
          · rw [List.mem_singleton.mp z] at hl
            exact Nat.lt_irrefl _ hl
        have J := GxR.inv_tab (more := more) (h' := s'.heap) (g' := s'.gens) (d' := s'.drawn) (t' := s'.toks) I1 hP (fun b u hb e => hm'.heap b u (nw b u e) (hk5 b u (kp3 b u hb e)))
          (by rw [← em]; exact hm'.heap P _ (nw P _ gP) (hk5 P _ gP3)) (AllBare.movedS (I1.bare.push bare) hm')
        rw [GxR.sh_eta s1 s' hm'.os] at J
        have tabbed : GxR.Tabbed P H1 (upd H1 P (.tbl (ps ++ more))) := ⟨⟨ps ++ more, upd_same, by rw [← em]; exact ht3⟩, fun b hb => upd_ne hb⟩
        have sz : (((List.range (hi' - lo).toNat).filter pz).map fun i => V.int (f i)).length ≤ sizeLine := by
          rw [List.length_map]
          exact Nat.le_trans (List.length_filter_le _ _) (by rw [List.length_range]; exact hz)
        have vv : Vals (((List.range (hi' - lo).toNat).filter pz).map fun i => V.int (f i)) acc.toList := by
          refine vals_at _ _ ?_ fun j y hy => ?_
          · rw [Array.length_toList, hacc.1, len0]
          · obtain ⟨i, e9, u, z⟩ := hacc.2 j y (by simpa using hy)
            exact ⟨i, by rw [← len0]; exact e9, u, z⟩
        refine ⟨.ref _, _, J.laid (t' := s'.toks) (o := .tup _) (fun b o' z => Heap.get?_push_of_some _ z) (Nat.le_refl _) ⟨sz, acc.toList, vv, _, Heap.get?_push_size _ rfl, rfl, _, rfl⟩, rfl, q _ _ tabbed (J.hok.fresh (Nat.le_refl _))⟩
      · rw [len0]
        exact Nat.le_trans (List.length_filter_le _ _) (by rw [List.length_range]; exact hz)
  refine ⟨lim2, ?_⟩
  cases hf : codeAmong gpos ps.toList with
  | none =>
    refine wpAny_genexprCodeX hcode (cd.code gP2 ht) (cd.tab gP2) hf fun c' h' tk hx hge hlt hco' _ htab' _ => ?_
    obtain ⟨_, _, _, _, _, _, _, _, _, _, _, _, _, _, _, _, _, _, _, htr, _⟩ := hco'
    exact main _ h' tk _ hx (Nat.le_trans hge (Nat.le_of_lt hlt)) htab'.2 ⟨_, rfl⟩ htr
  | some cv =>
    refine wpAny_genexprCode_hit hcode (cd.code gP2 ht) hf ?_
    exact main cv (s1.heap.push ob) s1.toks ps (Heap.ExtBut.refl _ _) (Nat.le_refl _) gP2 ⟨#[], by simp⟩ ht
end
/-! ### the end of a law whose defs hold generator expressions: the tables of their code objects are tracked -/
def LawDoesT (P : Program) (w : World) (K : PySem.W.Frag) (mg : Str → Option Value) (base : Heap) (st : Stmt) (N : List Str) (f : Addr) (cs : List (Addr × Addr)) : Prop :=
  ∀ (cdv : Value) (s : Shared) (H : Hp) (a : Addr) (ns : List Int), ns.length ≤ 63 → (∀ p ∈ cs, H p.2 = some (.tbl #[])) → SqL K H a (ns.map V.int) →
    ∃ t, PSs (cxOf CX0 P w K mg base N "law" (defScope st) f cdv callerA [] s H E0).nox (defBody st) t ∧
      t { nx := fun _ _ => False, rt := fun v _ => v = .bl true } (start N [.ref a]) H
theorem law_atT {P : Program} {w : World} {K : PySem.W.Frag} {mg : Str → Option Value} {base : Heap} {st : Stmt} {N : List Str} {f a : Addr} {fd : FuncData} {s : Shared} {H : Hp} {ns : List Int} {x : Str} {cs : List (Addr × Addr)}
    (F : Fun K "law" "law" st f fd) (S : FnScope N [x] (defScope st)) (hr : Room 60 callerA) (D : LawDoesT P w K mg base st N f cs) (hT : ∀ p ∈ cs, H p.2 = some (.tbl #[]))
    (e0 : Env0 P w K mg base callerA [] s H) (hb : BindsTo s fd ⟨[.ref a], []⟩ [(x, .ref a)]) (hl : ns.length ≤ 63) (hS : SqL K H a (ns.map V.int)) :
    codeAny (model P w) callerA (.call (.ref f) ⟨[.ref a], []⟩) (CR CX0 [] P w H s (fun v _ => v = .bl true) E0) s := by
  obtain ⟨oc, od, kV, doc, pm, an, cdv, ct, osl, rfl, lk, hcd⟩ := F.ex
  have heap0 : K.In s.heap := e0.mod.kin.keeps fun b o e => (e0.bs b o e).1
  have lim0 := e0.mod.nolimit.keeps fun b o e => (e0.bs b o e).1
  have vals : Vals [V.ref a] [Value.ref a] := .cons rfl .nil
  refine codeAny_call_function hr.depth (heap0 _ _ lk) rfl S.co S.gen rfl (PySem.W.codeRec_of heap0 hcd) (hb _ _ _ _ ?_)
  refine wpAny_newFunctionEnv_cells S.kind (fun y hy => ?_) fun env he s1 ic => ?_
  · have ey : y = (x, Value.ref a) := List.mem_singleton.mp hy
    rw [ey]
    rcases S.par x (List.mem_singleton.mpr rfl) with q | q
    · exact Or.inl q
    · exact Or.inr ⟨q, PySem.W.cellsFrom_some _ _ _ (Or.inl q)⟩
  · subst he
    refine ⟨lim0.keeps ic.toInCall.keep, codeAny_func ?_⟩
    obtain ⟨t, pt, q⟩ := D cdv s H a ns hl hT hS
    have I := inv_start (CX := CX0) (E := E0) (cd := cdv) (f := f) (qual := "law") S hr.hd e0 rfl vals ic
    refine wpAny_mono (pt.nox.run [] s1 _ H _ I q) ?_ ?_
    · intro fl s2 h
      cases fl with
      | ret u =>
        obtain ⟨v, _, H2, J, rv, e⟩ := h
        exact ⟨v, H2, J.os, J.bare, J.base, J.hok, rv, e⟩
      | next => exact (let ⟨_, _, _, z⟩ := h; False.elim z)
      | brk => exact (let ⟨_, _, _, z⟩ := h; False.elim z)
      | cont => exact (let ⟨_, _, _, z⟩ := h; False.elim z)
    · exact fun _ _ z => z
/-- the tables, or the script -/
def tabsAt (cs : List (Addr × Addr)) (G : Hp) : Hp := fun b => if b ∈ cs.map (·.2) then some (.tbl #[]) else G b
/-- what is known of a def's code at the head's heap -/
def CodeKnown (mg : Str → Option Value) (h : Heap) (nm : Str) : Prop :=
  ∃ (a : Addr) (o : Obj) (fd : FuncData) (c P : Addr), mg nm = some (.ref a) ∧ h.get? a = some o ∧ o.data = .func fd ∧ fd.code = .ref c ∧ h.IsCode c P #[] ∧ h.TableAt c P #[]
theorem law_walkT {l : PySem.W.OpenLaw} {q : Program} {loose : List Str} {XP : (Str → Option Value) → Heap → Prop} {YP : World → Heap → Prop} {d : DefRec} {K : Params → PySem.W.Frag} {x : Str} {st : Stmt} {N : List Str} {nms : List Str}
    (hn : l.most = some 63) (hdf : d.params.defaults = []) (S : FnScope N [x] (defScope st)) (hY : ∀ (w : World) (h : Heap), YP w h → (K w.params).In h) (hrec : ∀ nm ∈ nms, ((recsOf q).any fun e => e.name == nm) = true)
    (Fm : ∀ (w : World) (mg : Str → Option Value) (fa : Addr) (h : Heap), (K w.params).In h → h.Ns mainGlobals mg → mg d.name = some (.ref fa) → (∀ nm ∈ nms, CodeKnown mg h nm) →
      ∃ (fd : FuncData) (cs : List (Addr × Addr)), Fun (K w.params) "law" "law" st fa fd ∧ (∀ (s : Shared) (u : Value), BindsTo s fd ⟨[u], []⟩ [(x, u)]) ∧
        (∀ p ∈ cs, h.get? p.2 = some { cls := .none, data := .fields #[] } ∧ (K w.params).lookup p.2 = none ∧ PySem.W.CodeHd h p.1 p.2 ∧ h.IsCode p.1 p.2 #[] ∧ h.TableAt p.1 p.2 #[]) ∧
        ∀ base : Heap, (K w.params).In base → (∀ p ∈ cs, GxR.TabB base mg p.1 p.2) → LawDoesT l.prog w (K w.params) mg base st N fa cs) :
    PySem.W.WalkO q loose XP YP l.row.toRowW d [] (fun f vs => PySem.call f vs) := by
  refine Att.attach_call hn hdf fun w s₀ s1 mg mb fa o pm cd doc a vs ns G Y ho hd hcd hmg hobj hints hlen hgen => ?_
  have hK := hY w _ Y
  have known : ∀ nm ∈ nms, CodeKnown mg s1.heap nm := fun nm hm => by
    obtain ⟨e, he, en⟩ := List.any_eq_true.mp (hrec nm hm)
    have en' : e.name = nm := beq_iff_eq.mp en
    rw [← en']
    exact G.T.tab e he
  obtain ⟨fd, cs, F, hbind, hcs, D⟩ := Fm w mg fa _ hK G.T.g hmg known
  have rv := vals_ints hints
  let u : HO := .frz { cls := .type "list", data := .seq vs.toArray } (.lst (ns.map V.int))
  let free : Bool := ((K w.params).lookup a).isNone
  let H : Hp := tabsAt cs (onlyAt a u free)
  have isT : ∀ b, b ∈ cs.map (·.2) → s1.heap.get? b = some { cls := .none, data := .fields #[] } ∧ (K w.params).lookup b = none := fun b hb => by
    obtain ⟨p, hp, e⟩ := List.mem_map.mp hb
    rw [← e]
    exact ⟨(hcs p hp).1, (hcs p hp).2.1⟩
  have aT : a ∉ cs.map (·.2) := fun z => by
    have e := (isT a z).1
    rw [hobj] at e
    cases e
  have cases3 : ∀ b, H b = none ∨ (b ∈ cs.map (·.2) ∧ H b = some (.tbl #[])) ∨ (b = a ∧ free = true ∧ H b = some u) := fun b => by
    by_cases hb : b ∈ cs.map (·.2)
    · exact Or.inr (Or.inl ⟨hb, if_pos hb⟩)
    · rcases onlyAt_cases a u free b with n | ⟨e, fr, y⟩
      · exact Or.inl ((if_neg hb).trans n)
      · exact Or.inr (Or.inr ⟨e, fr, (if_neg hb).trans y⟩)
  have lenV : vs.length = ns.length := hints.length
  have small : ns.length ≤ sizeLine := Nat.le_trans hlen (by decide)
  have hS : SqL (K w.params) H a (ns.map V.int) := by
    cases e : (K w.params).lookup a with
    | none =>
      refine Or.inl (Or.inr ⟨{ cls := .type "list", data := .seq vs.toArray }, ?_⟩)
      show tabsAt cs (onlyAt a u free) a = some u
      unfold tabsAt
      rw [if_neg aT]
      exact if_pos ⟨rfl, by show ((K w.params).lookup a).isNone = true; rw [e]; rfl⟩
    | some ob =>
      have e1 := (hK a ob e).symm.trans hobj
      cases Option.some.inj e1
      exact Or.inr ⟨_, vs.toArray, _, e, rfl, rfl, rfl, by rw [List.size_toArray, lenV]; exact small, by rw [List.toList_toArray]; exact rv⟩
  have hHok : HOk l.prog w H s1.heap := fun b z e => by
    rcases cases3 b with n | ⟨hb, y⟩ | ⟨rfl, _, y⟩
    · cases n.symm.trans e
    · cases y.symm.trans e
      exact (isT b hb).1
    · cases y.symm.trans e
      exact ⟨hobj, by rw [List.length_map]; exact small, vs, _, rv, hobj⟩
  have isN : ∀ {b : Addr} {ob : Obj}, s1.heap.get? b = some ob → (∀ its n, ob.data ≠ .seq its n) → ob.data ≠ .fields #[] → H b = none := fun {b ob} e nd nf => by
    rcases cases3 b with n | ⟨hb, _⟩ | ⟨rfl, _, _⟩
    · exact n
    · cases (isT b hb).1.symm.trans e
      exact absurd rfl nf
    · cases hobj.symm.trans e
      exact absurd rfl (nd _ _)
  have nsK : ∀ {b : Addr} {m : Str → Option Value}, s1.heap.Ns b m → (hidT s1.heap H).Ns b m := by
    rintro b m ⟨ob, es, ep, e, dt, r⟩
    exact ⟨ob, es, ep, hidT_get e (isN e (fun its n z => nomatch dt.symm.trans z) fun z => nomatch dt.symm.trans z), dt, r⟩
  have inB : (K w.params).In (hidT s1.heap H) := fun b ob e => hidT_get (hK b ob e) (by
    rcases cases3 b with n | ⟨hb, _⟩ | ⟨rfl, fr, _⟩
    · exact n
    · rw [(isT b hb).2] at e
      cases e
    · have fr' : ((K w.params).lookup b).isNone = true := fr
      rw [e] at fr'
      cases fr')
  have hM : Mod (K w.params) mg (hidT s1.heap H) := ⟨inB, nsK G.T.g, ⟨mb, nsK G.T.b, G.T.builtins⟩, let ⟨mc, h1, h2⟩ := G.T.nolimit; ⟨mc, nsK h1, h2⟩⟩
  have TB : ∀ p ∈ cs, GxR.TabB (hidT s1.heap H) mg p.1 p.2 := fun p hp => by
    obtain ⟨t1, t2, t3, _⟩ := hcs p hp
    refine ⟨?_, ?_, fun z => ?_⟩
    · obtain ⟨ob, us, file, tf, flags, tg, inF, text, tt, e1, r1, r2, r3, r⟩ := t3
      refine ⟨ob, us, file, tf, flags, tg, inF, text, tt, hidT_get e1 (isN e1 (fun its n z => ?_) fun z => ?_), r1, r2, r3, r⟩
      · rw [r2] at z
        cases z
      · rw [r2] at z
        cases z
        simp at r3
    · obtain ⟨bm, ob, b1, b2, b3, b4, b5, b6⟩ := G.T.bmain
      have nG : bm ≠ mainGlobals := fun z => by
        obtain ⟨o', es, ep, e, hd', _⟩ := G.T.g
        rw [z, e] at b3
        cases b3
        rw [hd'] at b6
        cases b6
      have nP : bm ≠ p.2 := fun z => by
        rw [z, t1] at b3
        cases b3
        cases b6
      refine ⟨bm, ob, b1, b2, nG, nP, hidT_get b3 (isN b3 (fun its n z => ?_) fun z => ?_), b4, b5, b6⟩
      · rw [b6] at z
        cases z
      · rw [b6] at z
        cases z
    · obtain ⟨o', es, ep, e, hd', _⟩ := G.T.g
      rw [z, t1] at e
      cases e
      cases hd'
  have e0 : Env0 l.prog w (K w.params) mg (hidT s1.heap H) callerA [] s1 H :=
    { frames := rfl, mod := hM, bs := fun b ob e => of_hidT e, bsz := Nat.le_of_eq (hidT_size _ _), funs := True.intro, frf := fun b hb => (List.not_mem_nil hb).elim, hok := hHok, bare := .of_eq hgen }
  have hT : ∀ p ∈ cs, H p.2 = some (.tbl #[]) := fun p hp => if_pos (List.mem_map.mpr ⟨p, hp, rfl⟩)
  refine codeAny_mono (law_atT F S ⟨rfl, by decide, by decide⟩ (D _ inB TB) hT e0 (hbind s1 (.ref a)) hlen hS) fun r s2 h => ?_
  cases r with
  | error e => exact False.elim h
  | ok fl =>
    cases fl with
    | next => exact False.elim h
    | brk => exact False.elim h
    | cont => exact False.elim h
    | ret v0 =>
      obtain ⟨v, H2, os, bare, un, hok2, r2, ev⟩ := h
      have ev' : v = .bl true := ev
      rw [ev'] at r2
      have e3 : v0 = Value.bool true := r2
      rw [e3]
      have key : ∀ b ob, b ∉ cs.map (·.2) → s1.heap.get? b = some ob → s2.heap.get? b = some ob := fun b ob nb e => by
        rcases cases3 b with n | ⟨hb, _⟩ | ⟨rfl, _, y⟩
        · exact un.keep b ob e n List.not_mem_nil List.not_mem_nil
        · exact absurd hb nb
        · have k2 := hok2 b _ (un.frzs b _ _ y)
          cases hobj.symm.trans e
          exact k2.1
      have grown : ∀ p ∈ cs, ∃ more : Array Value, s2.heap.get? p.2 = some { cls := .none, data := .fields more } := fun p hp => by
        obtain ⟨more, z⟩ := un.tbls p.2 #[] (hT p hp)
        exact ⟨_, hok2 p.2 _ z⟩
      refine ⟨rfl, ⟨fun b ob e => ?_, fun b ob e => ?_⟩, os, bare⟩
      · by_cases hb : b ∈ cs.map (·.2)
        · obtain ⟨p, hp, ep⟩ := List.mem_map.mp hb
          obtain ⟨more, hm⟩ := grown p hp
          rw [← ep] at e ⊢
          obtain ⟨t1, _, t3, _⟩ := hcs p hp
          rw [t1] at e
          cases e
          exact Or.inr (Or.inl ⟨(t3.tab t1).isCodeTable, rfl, #[], more, rfl, by rw [Array.empty_append]; exact hm⟩)
        · exact Or.inl (key b ob hb e)
      · by_cases hb : b ∈ cs.map (·.2)
        · obtain ⟨p, hp, ep⟩ := List.mem_map.mp hb
          obtain ⟨more, hm⟩ := grown p hp
          rw [← ep]
          exact ⟨_, hm⟩
        · exact ⟨ob, key b ob hb e⟩
/-! ### expressions inside a generator expression's own frame, whatever has come since the state s -/
theorem keepsT {a b c : Shared} (x : PySem.Keeps a b) (y : PySem.Keeps b c) : PySem.Keeps a c := by
  obtain ⟨h, t, rfl, k⟩ := x
  obtain ⟨h2, t2, rfl, k2⟩ := y
  exact ⟨h2, t2, rfl, fun b o e => k2 b o (k b o e)⟩
theorem keepsK {a b : Shared} (x : PySem.Keeps a b) (t : Nat) : PySem.Keeps a { b with toks := t } := keepsT x (GxR.keeps_tok b t)
theorem keepsH {a b : Shared} (x : PySem.Keeps a b) : ∀ c o, a.heap.get? c = some o → b.heap.get? c = some o := by
  obtain ⟨h, t, rfl, k⟩ := x
  exact k
def GV (P : Program) (w : World) (A : Around) (env : Env) (s : Shared) (e : Expr) (R : Value → Prop) : Prop :=
  ∀ (E : Value → Shared → Prop) (s1 : Shared), PySem.Keeps s s1 → wpAny (model P w) A (eval e env) (fun y s2 => R y ∧ PySem.Keeps s s2) E s1
abbrev IsI (i : Int) : Value → Prop := fun y => ∃ t, y = .int i t
section
variable {P : Program} {w : World} {A : Around} {env : Env} {s : Shared} {a b : Expr} {pos p : Pos} {x : Str}
theorem gv_loc {m : Str → Option Value} {v : Value} {R : Value → Prop} (hk : env.scope.kind = .function) (hl : env.scope.names.lookup x = some .local) (hn : s.heap.Ns env.locals m) (hv : m x = some v) (r : R v) (hd : (x == ("__debug__" : Str)) = false := by decide) :
    GV P w A env s (.Name x p) R := fun E s1 k =>
  wpAny_Name (wpAny_loadName_local hk (show env.scope.names.lookup x = some .local from hl) (hn.keeps (keepsH k)) hv ⟨r, k⟩) hd
theorem gv_free {c : Addr} {v : Value} {R : Value → Prop} (hk : env.scope.kind = .function) (hl : env.scope.names.lookup x = some .free) (hc : env.cells.lookup x = some c) (hv : s.heap.IsCell c (some v)) (r : R v) (hd : (x == ("__debug__" : Str)) = false := by decide)
    (hcd : (x == ("__classdict__" : Str)) = false := by decide) : GV P w A env s (.Name x p) R := fun E s1 k =>
  wpAny_Name (wpAny_loadName_free hk (show env.scope.names.lookup x = some .free from hl) hc (let ⟨o, ho, hd⟩ := hv; ⟨o, keepsH k _ _ ho, hd⟩) ⟨r, k⟩ hcd) hd
theorem gv_int {i : Int} {j : Nat} : GV P w A env s (.Constant (.int i) j pos) (IsI i) := fun E s1 k => wpAny_Constant_int ⟨⟨_, rfl⟩, keepsK k _⟩
theorem gv_sub {i j : Int} (ha : GV P w A env s a (IsI i)) (hb : GV P w A env s b (IsI j)) : GV P w A env s (.BinOp a .Sub b pos) (IsI (i - j)) := fun E s1 k => by
  refine wpAny_BinOp (wpAny_mono (ha E s1 k) (fun y s2 ⟨⟨t, e⟩, k2⟩ => wpAny_mono (hb E s2 k2) (fun z s3 ⟨⟨u, e'⟩, k3⟩ => ?_) fun _ _ h => h) fun _ _ h => h)
  subst e
  subst e'
  exact sub_int ⟨⟨_, rfl⟩, keepsK k3 _⟩
theorem gv_add {i j : Int} (ha : GV P w A env s a (IsI i)) (hb : GV P w A env s b (IsI j)) : GV P w A env s (.BinOp a .Add b pos) (IsI (i + j)) := fun E s1 k => by
  refine wpAny_BinOp (wpAny_mono (ha E s1 k) (fun y s2 ⟨⟨t, e⟩, k2⟩ => wpAny_mono (hb E s2 k2) (fun z s3 ⟨⟨u, e'⟩, k3⟩ => ?_) fun _ _ h => h) fun _ _ h => h)
  subst e
  subst e'
  exact add_int ⟨⟨_, rfl⟩, keepsK k3 _⟩
/-- the item of a tuple -/
theorem gv_ix {t : Addr} {xs : List V} {its : List Value} {i : Int} {v : V} {R : Value → Prop} (ha : GV P w A env s a (· = .ref t)) (hb : GV P w A env s b (IsI i)) (ht : IsTup s.heap t its.toArray) (r : Vals xs its) (hz : xs.length ≤ sizeLine)
    (he : atI xs i = some v) (hr : ∀ u, RelV v u → R u) (hs : PlainIx b) : GV P w A env s (.Subscript a b pos) R := fun E s1 k => by
  refine Subscript_ (wpAny_mono (ha E s1 k) (fun y s2 ⟨e, k2⟩ => wpAny_mono (hb E s2 k2) (fun z s3 ⟨⟨u, e'⟩, k3⟩ => ?_) fun _ _ h => h) fun _ _ h => h)
  subst e
  subst e'
  obtain ⟨j, h1, h2, h3, h4, h5⟩ := atI_get he
  obtain ⟨w', ew, rw'⟩ := r.get h2
  have hl := r.length
  have hn := line63
  have ht3 := ht.keeps (keepsH k3)
  exact subscriptTail_builtinR (x := w') ht3.typeIs slot_tuple_getitem.lookup
    (getItem_tuple (j := j) (Q := fun r' s' => r' = w' ∧ (R r' ∧ PySem.Keeps s s')) ht3 (by omega) (by omega) (by rw [List.size_toArray, ← hl]; exact h1) (by simpa using ew) ⟨rfl, hr _ rw', k3⟩) (hs _ _)
/-- no test -/
theorem gt_nil {i : Bool} (hi : i = true) : ∀ E : Value → Shared → Prop, wpAny (model P w) A (forIn ([] : List Expr) true fun c r => if r = true then do let ok ← isTrue c env (eval c env); pure (ForInStep.yield ok) else pure (ForInStep.yield r)) (fun ok s3 => ok = i ∧ PySem.Keeps s s3) E s := fun E => by
  subst hi
  exact wpAny_pure ⟨rfl, GxR.keeps_refl _⟩
/-- one test: a != b -/
theorem gt_ne {i j : Int} (ha : GV P w A env s a (IsI i)) (hb : GV P w A env s b (IsI j)) (hm : behindInMarks .NotEq b = false := by with_unfolding_all rfl) : ∀ E : Value → Shared → Prop, wpAny (model P w) A (forIn [Expr.Compare a [.NotEq] [b] pos] true fun c r => if r = true then do let ok ← isTrue c env (eval c env); pure (ForInStep.yield ok) else pure (ForInStep.yield r)) (fun ok s3 => ok = (i != j) ∧ PySem.Keeps s s3) E s := fun E => by
  rw [List.forIn_cons]
  simp only [if_true, List.forIn_nil]
  refine wpAny_bind (wpAny_bind (wpAny_isTrue_Compare1 (wpAny_mono (ha E s (GxR.keeps_refl _)) (fun y s2 ⟨⟨t, e⟩, k2⟩ => wpAny_mono (hb E s2 k2) (fun z s3 ⟨⟨u, e'⟩, k3⟩ => ?_) fun _ _ h => h) fun _ _ h => h) hm))
  subst e
  subst e'
  exact ne_int (wpAny_truthy_bool (wpAny_pure (wpAny_pure ⟨rfl, k3⟩)))
end
/-- a captured name, where the generator expression starts -/
theorem Inv.freeAt {X : Cx} {pins : List (Addr × Obj)} {σ : L2.St} {H : Hp} {s : Shared} {i : Nat} {x : Str} {v : V} (I : Inv X pins σ H s) (hN : X.N[i]? = some x) (e : σ[i]? = some (some v)) (hc : X.env.scope.names.lookup x = some .cell) :
    ∃ u c, RelV v u ∧ X.env.cells.lookup x = some c ∧ s.heap.IsCell c (some u) := by
  obtain ⟨m, hn, hl⟩ := I.loc
  obtain ⟨u, r, l⟩ := hl i x v hN e (Or.inr (Or.inl hc))
  rcases l with ⟨hk, _⟩ | ⟨_, c, hc', hcell⟩
  · have hk' : X.env.scope.names.lookup x = some .local := hk
    rw [hc] at hk'
    cases hk'
  · exact ⟨u, c, r, hc', hcell⟩
theorem clo_at {cells : List (Str × Addr)} {x : Str} {c : Addr} (hc : cells.lookup x = some c) : ∀ (names : List (Str × NameKind)) (acc : List (Str × Addr)), ((x, NameKind.free) ∈ names ∨ acc.lookup x = some c) → (cloFrom cells names acc).lookup x = some c
  | [], _, h => h.elim (fun z => absurd z List.not_mem_nil) id
  | (n, k) :: r, acc, h => by
    unfold cloFrom
    by_cases hk : k = .free
    · rw [if_pos (by rw [hk]; rfl)]
      refine clo_at hc r _ ?_
      by_cases nx : x = n
      · subst nx
        refine Or.inr ?_
        rw [List.lookup_cons, hc]
        simp
      · rcases h with h | h
        · rcases List.mem_cons.mp h with z | z
          · exact absurd (congrArg Prod.fst z) nx
          · exact Or.inl z
        · refine Or.inr ?_
          rw [List.lookup_cons]
          have : (x == n) = false := beq_eq_false_iff_ne.mpr nx
          rw [this]
          exact h
    · rw [if_neg (by simpa using hk)]
      refine clo_at hc r acc ?_
      rcases h with h | h
      · rcases List.mem_cons.mp h with z | z
        · exact absurd (congrArg Prod.snd z).symm hk
        · exact Or.inl z
      · exact Or.inr h
theorem gen_free {sc sc' : Scope} {n : Nat} (h : (sc'.names.all fun y => y.2 != NameKind.free || sc.names.lookup y.1 == some NameKind.cell) = true) : ∀ y ∈ sc'.names, y.2 = .free → ∃ c, (cellsFrom n sc.names []).lookup y.1 = some c := fun y hy hf => by
  have q := List.all_eq_true.mp h y hy
  rw [hf] at q
  refine cell_has ?_
  simpa using q
/-- a def whose code object is known -/
theorem Fun.okC {P : Program} {w : World} {K : PySem.W.Frag} {mg : Str → Option Value} {base : Heap} {x qual : Str} {st : Stmt} {f c : Addr} {fd : FuncData} {N ps : List Str} {k : Nat} {sp : Sp} (F : Fun K x qual st f fd) (hc : fd.code = .ref c) (S : FnScope N ps (defScope st)) (len : ∀ vs H Q E, sp vs H Q E → vs.length = ps.length)
    (hbody : ∀ (A : Around) (outer : List Env) (s : Shared) (H : Hp) (vs : List V) (Q : VK) (E : XK), Room k (A.deeper (envOfC qual (defScope st) s.heap.objs.size f (.ref c))) → sp vs H Q E →
      ∃ t, PSs (cxOf CX0 P w K mg base N qual (defScope st) f (.ref c) A outer s H E).nox (defBody st) t ∧ t { nx := fun _ H' => Q .non H', rt := Q } (start N vs) H) : FnOk P w K mg base CX0 (k + 1) f fd ps sp := by
  obtain ⟨oc, od, kV, doc, pm, an, cdv, ct, osl, rfl, lk, hcd⟩ := F.ex
  have hc' : cdv = .ref c := hc
  subst hc'
  refine fn_of lk hcd S len fun A outer s H vs Q E hr hsp => ?_
  obtain ⟨t, h, q⟩ := hbody A outer s H vs Q E hr hsp
  exact ⟨t, h.nox, q⟩
/-! ### the tables of the text's code objects -/
def TabField (o : Obj) (P : Addr) : Prop := ∃ vs, o.data = .fields vs ∧ vs[11]? = some (.ref P)
theorem tab_mk {K : PySem.W.Frag} {h : Heap} {mg : Str → Option Value} {nm : Str} {f c P : Addr} {o oc : Obj} {fd : FuncData} (X : K.In h) (hm : mg nm = some (.ref f)) (l : K.lookup f = some o) (hd : o.data = .func fd) (hc : fd.code = .ref c)
    (kk : K.lookup c = some oc) (vv : TabField oc P) (nn : K.lookup P = none) (ck : CodeKnown mg h nm) :
    h.get? P = some { cls := .none, data := .fields #[] } ∧ K.lookup P = none ∧ PySem.W.CodeHd h c P ∧ h.IsCode c P #[] ∧ h.TableAt c P #[] := by
  obtain ⟨a, o', fd', c', P', m1, m2, m3, m4, m5, m6⟩ := ck
  rw [hm] at m1
  cases m1
  rw [X _ _ l] at m2
  cases m2
  rw [hd] at m3
  cases m3
  rw [hc] at m4
  cases m4
  obtain ⟨vs, v1, v2⟩ := vv
  have e : P' = P := by
    obtain ⟨⟨o2, vs2, t1, _, t3, t4⟩, _⟩ := m6
    rw [X _ _ kk] at t1
    cases t1
    rw [v1] at t3
    cases t3
    rw [v2] at t4
    cases t4
    rfl
  subst e
  exact ⟨m6.2, nn, PySem.W.CodeHd.of m5 m6, m5, m6⟩
/-! ### lists or tuples; zip of tuples -/
section
variable {X : Cx}
theorem ixSK (K : PySem.W.Frag) (h : X.K = K) : IxR X (rIx K) := h ▸ ix_seq
end
def SqA (K : PySem.W.Frag) (H : Hp) (a : Addr) (xs : List V) : Prop := SqL K H a xs ∨ SqT K H a xs
theorem SqA.same {K : PySem.W.Frag} {H J : Hp} {a : Addr} {xs : List V} (s : Same H J) (h : SqA K H a xs) : SqA K J a xs := h.elim (fun z => .inl (s.seq z)) fun z => .inr (sameT s z)
theorem walk_zipT {K : PySem.W.Frag} {a b : Addr} {xs ys : List V} {n : Nat} (hn : n = min xs.length ys.length) : Walk (RZ.ItzT K a b) n (fun H => SqT K H a xs ∧ SqT K H b ys) (YPair (fun i => xs[i]?) (fun i => ys[i]?)) := by
  refine ⟨fun i H hi q => ⟨xs, ys, xs[i], ys[i], q.1, q.2, List.getElem?_eq_getElem (by omega), List.getElem?_eq_getElem (by omega)⟩, fun H q => ⟨xs, ys, q.1, q.2, by omega⟩, fun i H v H' hi q y => ?_⟩
  obtain ⟨T, x, y', e, hT, eH, f, g⟩ := y
  exact ⟨T, x, y', e, hT, eH, f _ q.1, g _ q.2⟩
/-- two names, in a comprehension -/
theorem pg_pairK (K : PySem.W.Frag) {X : Cx} {i j k : Nat} {x y : Str} {p q pos : Pos} (hK : X.K = K) (hc : X.calm = true) (hN : X.N.Nodup) (hi : X.N[i]? = some x) (hx : Loc X.env.scope x) (hj : X.N[j]? = some y) (hy : Loc X.env.scope y)
    (hf : X.fn x = true ∨ X.env.scope.names.lookup x = some .local := by first | exact .inl rfl | exact .inr rfl) (hf' : X.fn y = true ∨ X.env.scope.names.lookup y = some .local := by first | exact .inl rfl | exact .inr rfl) :
    PG X (.Tuple [.Name x p, .Name y q] k pos) (gTup K 2 (gCons (gName i) (gCons (gName j) gNil))) := by
  subst hK
  exact pg_tup hc (pgs_cons (pg_name hN hi hx hf) (pgs_cons (pg_name hN hj hy hf') pgs_nil))
/-! ### (x,) * k, long -/
def rRepOne (K : PySem.W.Frag) : R2 := fun x y H Q => ∃ (l : Addr) (k : Int) (v : V), x = .ref l ∧ y = .int k ∧ SqT K H l [v] ∧ 2 ≤ k ∧ k ≤ 9000 ∧ ∀ p, H p = none → Q (.ref p) (upd H p (.tup (List.replicate k.toNat v)))
theorem one_rep (u : Value) (m : Nat) : (List.foldl (fun a b => a ++ b) #[] (List.replicate m #[u])) = (List.replicate m u).toArray := by
  have e := size_rep [u] m
  rw [List.flatten_replicate_singleton] at e
  exact e
theorem op_repOne {X : Cx} : OpR X (binaryOp .Mult) (rRepOne X.K) := by
  rintro pins s σ H _ _ _ _ Q I rx ry ⟨l, k, v, rfl, rfl, hT, lo, hi, q⟩
  cases rx
  obtain ⟨tk, rfl⟩ := ry
  obtain ⟨its, r, ⟨⟨cl, dd, dat, sl⟩, ho, rfl, n, rfl⟩, _⟩ := I.tuple hT
  cases r with
  | cons ru rn =>
  rename_i u us
  cases rn
  have fits : (List.replicate k.toNat u).toArray.size ≤ sizeLine := by
    rw [List.size_toArray, List.length_replicate]
    exact Nat.le_trans (by omega : k.toNat ≤ 9000) (by decide)
  have sz1 : (([u].toArray.size : Nat) : Int) * k = k := Int.one_mul k
  have far : (decide (k < -(2 ^ 63)) || decide (k ≥ 2 ^ 63)) = false := by
    rw [Bool.or_eq_false_iff]
    exact ⟨decide_eq_false (by omega), decide_eq_false (by omega)⟩
  have few : Builtin.Tuple.tupleTooMany (([u].toArray.size : Nat) * k) = false := by
    rw [sz1]
    show decide _ = false
    refine decide_eq_false ?_
    have := sizeLine_eq
    omega
  have many : (([u].toArray.isEmpty || k == 1) = false) ∧ ((decide (k ≤ 0) || [u].toArray.isEmpty) = false) := by
    refine ⟨?_, ?_⟩
    · show (false || k == 1) = false
      rw [Bool.false_or]
      exact beq_eq_false_iff_ne.mpr (by omega)
    · show (decide (k ≤ 0) || false) = false
      rw [Bool.or_false]
      exact decide_eq_false (by omega)
  have W := tuple_mulW l [u].toArray n dd sl k tk far many.1 many.2 (by rw [sz1]; omega) few (by rw [show [u].toArray = #[u] from rfl, one_rep]; exact fits)
  have isT : s.TypeIs (.ref l) "tuple" := ⟨_, ho, rfl⟩
  refine wpAny_binaryOp_repeat_ref (T := "tuple") (U := "int") (by decide) isT (fun z => typeIs_int z k tk) noFill_tuple_mul F.fills_int_mul F.slot_int_rmul repeat_tuple F.slot_int_index.lookup ?_
  refine call_meets F.slot_int_rmul (typeIs_int s k tk) F.entry_int_rmul (F.args_int_rmul_2 _ _) (int_rmul_tuple k tk l [u].toArray n dd sl) ⟨ho, rfl, isT, ?_⟩
  refine call_meets F.slot_tuple_mul isT F.entry_tuple_mul (F.args_tuple_mul_2 _ _) W ⟨ho, ?_⟩
  rw [show [u].toArray = #[u] from rfl, one_rep]
  have vals : Vals (List.replicate k.toNat v) (List.replicate k.toNat u) := by
    generalize k.toNat = m
    induction m with
    | zero => exact .nil
    | succ m ih => exact .cons ru ih
  refine ⟨.ref s.heap.objs.size, _, I.laid (t' := s.toks) (o := .tup (List.replicate k.toNat v)) (fun b o e => Heap.get?_push_of_some _ e) (Nat.le_refl _) ⟨?_, _, vals, _, Heap.get?_push_size _ rfl, rfl, _, rfl⟩, rfl, q _ (I.hok.fresh (Nat.le_refl _))⟩
  rw [List.length_replicate]
  exact Nat.le_trans (by omega : k.toNat ≤ 9000) (by decide)
theorem nil_tup (ds : List PyData) : PyData.eqv (.tuple ds) (.tuple []) = ds.isEmpty := by
  cases ds <;> simp [PyData.eqv, PyData.eqvAll]
/-! ### set(list of numbers), as a set that can be sorted; sorted(set(..)) -/
/-- the new, empty set -/
abbrev noneYet (w : World) : Obj := { cls := .type "set", dict := none, data := .set #[] 0 (.fresh 0 0 (!w.params.followText "set-order")) }
section
variable {P : Program} {w : World} {A : Around} {E : Value → Shared → Prop} {s : Shared}
theorem set_of_list {src : Addr} {vals : Array Value} (ns : List Int) {Q : Value → Shared → Prop} (calm : A.handled = none) (isL : s.heap.IsList src vals) (nums : IntsAre vals.toList ns) (few : ns.length + 1 < scanBound)
    (fin : ∀ (g : Heap) (tk m : Nat), SetR w g s.heap.objs.size (fun j => decide (j ∈ ns)) m → m ≤ ns.length → (∀ b o, s.heap.get? b = some o → g.get? b = some o) → Q (.ref s.heap.objs.size) { s with heap := g, toks := tk }) :
    wpAny (model P w) A (call (.type "set") [.ref src]) Q E s := by
  have many : vals.size = ns.length := (Array.length_toList (xs := vals)).symm.trans nums.length
  obtain ⟨cc, cl, ho⟩ := F.called_set.mro
  have ⟨m1, m2, m3, m4⟩ := And.intro F.called_set.made (And.intro F.called_set.sub (And.intro F.called_set.notType F.called_set.canCreate))
  have m5 := F.typeCall_set_1 (Value.ref src)
  refine wpAny_call (codeAny_of_tree (show wpAny _ _ (callAny (.type "set") _) _ _ _ from ?_))
  refine wpAny_pure (And.intro (Code.quiet_builtin _ (by decide +kernel)) (codeAny_builtin F.entry_type_call ?_))
  rw [Around.under_plain (weight_type_call_type "set" [Value.ref src] []) rfl]
  repeat (any_goals (first | assumption | wp_step))
  refine codeAny_mono (code_set_led1 (Value.ref src) (E := E) (Q₁ := fun u t => u = .ref s.heap.objs.size ∧ t = { s with heap := s.heap.push (noneYet w) }) (And.intro rfl rfl)) fun r1 t1 z1 => ?_
  cases r1 with
  | error _ => exact z1
  | ok f1 =>
  cases f1 with
  | next => exact z1.elim
  | brk => exact z1.elim
  | cont => exact z1.elim
  | ret u =>
  obtain ⟨rfl, rfl⟩ := z1
  have at0 : (s.heap.push (noneYet w)).get? s.heap.objs.size = some (noneYet w) := Heap.get?_push_size _ rfl
  have ty0 : Shared.TypeIs { s with heap := s.heap.push (noneYet w) } (.ref s.heap.objs.size) "set" := ⟨_, at0, rfl⟩
  have n1 := F.called_set.init.lookup
  have n2 := F.called_set.init.bind (Value.ref s.heap.objs.size)
  repeat (any_goals (first | assumption | wp_step))
  refine codeAny_mono (codeAny_call_builtin (R := wants (fun r t => r = .none ∧ ∃ (g : Heap) (tk m : Nat), t = { s with heap := g, toks := tk } ∧ SetR w g s.heap.objs.size (fun j => decide (j ∈ ns)) m ∧ m ≤ ns.length ∧ (∀ b o, s.heap.get? b = some o → g.get? b = some o)) E)
    F.called_set.init.plain F.entry_set_init (check_set_init_1 ty0 ?_)) fun r2 t2 z2 => ?_
  · obtain ⟨⟨lc, ld, lx, ls⟩, at1, k1, len, k2⟩ := isL
    simp only at k1 k2
    subst k1 k2
    have at2 : (s.heap.push (noneYet w)).get? src = some { cls := .type "list", dict := ld, data := .seq vals len, slots := ls } := Heap.get?_push_of_some _ at1
    have o1 := F.sub_list_set
    have o2 := F.sub_list_frozenset
    have o3 : (Value.type "list" == Value.type "dict") = false := by decide
    have isL2 : (s.heap.push (noneYet w)).IsList src vals := ⟨_, at2, rfl, len, rfl⟩
    unfold Builtin.«set.__init__» noKeywords Builtin.Frozenset.updateFrom
    generalize keep : pyIter = PI
    wp_walk
    subst keep
    refine wpAny_pyIter_list isL2 (wpAny_bind (wpAny_runValue ?_))
    have lt := Heap.lt_size at1
    have sz : (s.heap.push (noneYet w)).objs.size = s.heap.objs.size + 1 := Heap.size_push ..
    have calm3 : A.in1.in1.in1.handled = none := by simp only [Around.in1, calm]
    have apart : src ≠ (s.heap.push (noneYet w)).objs.size := fun z => by
      rw [z, sz] at lt
      exact absurd lt (Nat.not_lt_of_le (Nat.le_succ _))
    have out : s.heap.objs.size ∉ [(s.heap.push (noneYet w)).objs.size, src] := fun z => by
      rcases List.mem_cons.mp z with z | z
      · rw [sz] at z
        exact absurd z (Nat.ne_of_lt (Nat.lt_succ_self _))
      · rw [List.mem_singleton.mp z] at lt
        exact Nat.lt_irrefl _ lt
    have each : ∀ (i : Nat) (v : Value), vals[i]? = some v → ∃ k t, ns[i]? = some k ∧ v = .int k t := fun i v hv => by
      have li : i < ns.length := many ▸ (Array.getElem?_eq_some_iff.mp hv).1
      obtain ⟨t, e⟩ := PyProof.Rows.IntsAre.int_at nums i v (by rw [Array.getElem?_toList]; exact hv)
      exact ⟨ns[i], t, List.getElem?_eq_getElem li, by rw [e, List.getD_eq_getElem?_getD, List.getElem?_eq_getElem li]; rfl⟩
    refine set_update_ints (Walks.list calm3 _ src apart vals).toS s.heap.objs.size out ns many few each (vals.size - 0) 0 _ rfl (Nat.zero_le _) ⟨⟨_, Heap.get?_push_size _ rfl, rfl, rfl⟩, isL2.push _⟩
      ⟨0, Nat.le_refl 0, setR_new_at (Heap.get?_push_of_some _ at0)⟩ fun t m mv lm Rt => ?_
    obtain ⟨g, gg, dd, tk, os⟩ := t
    obtain rfl : gg = s.gens := mv.gens
    obtain rfl : dd = s.drawn := mv.drawn
    obtain rfl : os = s.os := mv.os
    show wpAny _ _ _ _ _ _
    refine wpAny_pure (show wpAny _ _ (ret Value.none) _ _ _ from wpAny_pure ⟨rfl, g, tk, m, rfl, Rt, many ▸ lm, fun b o e => ?_⟩)
    have lb := Heap.lt_size e
    refine mv.heap b o (fun z => ?_) (Heap.get?_push_of_some _ (Heap.get?_push_of_some _ e))
    rcases List.mem_cons.mp z with z | z
    · rw [z] at lb
      exact Nat.lt_irrefl _ lb
    · rw [List.mem_singleton.mp z, sz] at lb
      exact absurd lb (Nat.not_lt_of_le (Nat.le_succ _))
  · cases r2 with
    | error _ => exact z2
    | ok f2 =>
    cases f2 with
    | next => exact z2.elim
    | brk => exact z2.elim
    | cont => exact z2.elim
    | ret _ =>
    obtain ⟨rfl, g, tk, m, rfl, Rt, lm, old⟩ := z2
    repeat (any_goals (first | assumption | wp_step))
    exact fin g tk m Rt lm old
end
section
variable {X : Cx}
def rSetN (K : PySem.W.Frag) (w : World) : List V → Hp → VK → Prop := fun xs H Q => ∃ (l : Addr) (ns : List Int), xs = [V.ref l] ∧ SqA K H l (ns.map V.int) ∧ ns.length < 4000 ∧ ∀ (p : Addr) (m : Nat), m ≤ ns.length → H p = none → Q (.ref p) (upd H p (SetO w p (fun j => decide (j ∈ ns)) m))
theorem cr_setN (hc : X.calm = true) : CallR X (.type "set") (rSetN X.K X.w) := by
  intro pins s σ H xs us Q I r h
  obtain ⟨l, ns, rfl, hq, h64, q⟩ := h
  rw [Vals.ref1 r]
  have few : ns.length + 1 < scanBound := Nat.lt_trans (by omega : ns.length + 1 < 4001) (by decide)
  rcases hq with hq | hq
  · obtain ⟨its, rv, pl, _⟩ := I.list hq
    refine set_of_list ns (I.ok.hd hc) pl.isList (RZ.intsAre_vals rv) few fun g tk m R lm old => ?_
    exact ⟨.ref _, _, I.laid (t' := tk) old (Nat.le_refl _) (setO_new R), rfl, q _ m lm (I.hok.fresh (Nat.le_refl _))⟩
  · obtain ⟨its, rv, pl, _⟩ := I.tuple hq
    refine call_set_tupI ns (I.ok.hd hc) (show s.heap.IsTuple l its.toArray from pl) (RZ.intsAre_vals rv) few fun g tk m R lm old => ?_
    exact ⟨.ref _, _, I.laid (t' := tk) old (Nat.le_refl _) (setO_new R), rfl, q _ m lm (I.hok.fresh (Nat.le_refl _))⟩
end
/-- strictly rising lists of the same numbers are the same -/
theorem rising_eq : ∀ {a b : List Int}, a.Pairwise (· < ·) → b.Pairwise (· < ·) → (∀ k, k ∈ a ↔ k ∈ b) → a = b
  | [], [], _, _, _ => rfl
  | [], y :: b, _, _, h => absurd ((h y).mpr List.mem_cons_self) List.not_mem_nil
  | x :: a, [], _, _, h => absurd ((h x).mp List.mem_cons_self) List.not_mem_nil
  | x :: a, y :: b, ha, hb, h => by
    obtain ⟨ha1, ha2⟩ := List.pairwise_cons.mp ha
    obtain ⟨hb1, hb2⟩ := List.pairwise_cons.mp hb
    have e : x = y := by
      rcases List.mem_cons.mp ((h x).mp List.mem_cons_self) with z | z
      · exact z
      · rcases List.mem_cons.mp ((h y).mpr List.mem_cons_self) with u | u
        · exact u.symm
        · have := hb1 x z
          have := ha1 y u
          omega
    subst e
    have t : a = b := rising_eq ha2 hb2 fun k => by
      constructor
      · intro z
        rcases List.mem_cons.mp ((h k).mp (List.mem_cons_of_mem _ z)) with u | u
        · have := ha1 k z
          omega
        · exact u
      · intro z
        rcases List.mem_cons.mp ((h k).mpr (List.mem_cons_of_mem _ z)) with u | u
        · have := hb1 k z
          omega
        · exact u
    rw [t]
/-- out is the numbers of ns in order, each once -/
def Sorted (out ns : List Int) : Prop := out.Pairwise (· < ·) ∧ ∀ k, k ∈ out ↔ k ∈ ns
theorem Sorted.eq {a b ns ms : List Int} (ha : Sorted a ns) (hb : Sorted b ms) (h : ∀ k, k ∈ ns ↔ k ∈ ms) : a = b := rising_eq ha.1 hb.1 fun k => by rw [ha.2, h, hb.2]
/-! ### t.index(k), t a tuple of numbers -/
def rIdxT (K : PySem.W.Frag) : V → List V → Hp → VK → Prop := fun x xs H Q => ∃ (p : Addr) (ns : List Int) (k : Int) (j : Nat), x = .ref p ∧ xs = [.int k] ∧ SqT K H p (ns.map V.int) ∧ ns[j]? = some k ∧ (∀ m, m < j → ns[m]? ≠ some k) ∧ Q (.int (j : Nat)) H
theorem mt_idxT {X : Cx} : MtR X "tuple.index" (rIdxT X.K) := by
  rintro pins s σ H _ _ v us Q I rx rs ⟨p, ns, k, j, rfl, rfl, hq, hk, first, q⟩
  cases rx
  obtain ⟨u, rfl, t, rfl⟩ := vals1 rs
  obtain ⟨its, r, ⟨⟨cl, dd, dat, sl⟩, ho, rfl, n, rfl⟩, _⟩ := I.tuple hq
  have len : its.toArray.size = ns.length := by
    have := r.length
    rw [List.length_map] at this
    rw [List.size_toArray]
    exact this.symm
  have place : ∀ (m : Nat) (hm : m < its.toArray.size), ∃ y t', ns[m]? = some y ∧ its.toArray[m] = Value.int y t' := by
    intro m hm
    have lm : m < ns.length := len ▸ hm
    obtain ⟨v', hv, t', rfl⟩ := r.get (i := m) (x := .int ns[m]) (by rw [List.getElem?_map, List.getElem?_eq_getElem lm]; rfl)
    exact ⟨ns[m], t', List.getElem?_eq_getElem lm, by simpa using (List.getElem?_eq_some_iff.mp hv).2⟩
  have lj : j < its.toArray.size := len ▸ (List.getElem?_eq_some_iff.mp hk).1
  have W := TI.tuple_indexAt p its.toArray n dd sl (.int k t) (eqU (.int k)) j lj (by
    obtain ⟨y, t', h1, h2⟩ := place j lj
    rw [h2, show y = k from Option.some.inj (h1.symm.trans hk)]
    exact beq_self_eq_true k) (by
    intro m hm lt
    obtain ⟨y, t', h1, h2⟩ := place m hm
    rw [h2]
    exact beq_eq_false_iff_ne.mpr fun e => first m lt (by rw [h1, e]))
  refine call_meets PySem.F.slot_tuple_index ⟨_, ho, rfl⟩ PySem.F.entry_tuple_index (PySem.F.args_tuple_index_2 _ _) W ⟨ho, fun w' hw => ?_, .int (j : Nat), H, I.tok _, ⟨_, rfl⟩, q⟩
  refine mem_eqAt (x := .int k) ⟨t, rfl⟩ rfl r ?_ w' (by simpa using hw)
  rw [List.all_map]
  exact List.all_eq_true.mpr fun _ _ => rfl
/-! ### tuples made by tuple(list), known to the object; their methods -/
def FrzT (H : Hp) (a : Addr) (xs : List V) : Prop := ∃ o : Obj, o.cls = .type "tuple" ∧ o.dict = none ∧ H a = some (.frz o (.tup xs))
theorem FrzT.sq {K : PySem.W.Frag} {H : Hp} {a : Addr} {xs : List V} (h : FrzT H a xs) : SqT K H a xs := let ⟨o, _, _, e⟩ := h; Or.inl (Or.inr ⟨o, e⟩)
section
variable {X : Cx}
def rTupF (K : PySem.W.Frag) : List V → Hp → VK → Prop := fun xs H Q => ∃ (p : Addr) (ys : List V), xs = [.ref p] ∧ SqL K H p ys ∧ ∀ (l : Addr) (o : Obj), o.cls = .type "tuple" → o.dict = none → H l = none → Q (.ref l) (upd H l (.frz o (.tup ys)))
theorem cr_tupF : CallR X (.type "tuple") (rTupF X.K) := by
  rintro pins s σ H xs us Q I r ⟨p, ys, rfl, hq, q⟩
  rw [Vals.ref1 r]
  obtain ⟨its, rv, pl, hz⟩ := I.list hq
  have few := rv.length
  refine call_tuple_list pl.isList (fun g old => ?_) (by rw [List.size_toArray]; omega)
  have I1 : Inv X pins σ H { s with heap := g } := I.kept (t' := s.toks) old
  let o : Obj := { cls := .type "tuple", data := .seq its.toArray }
  have ok : ObjOk X.prog X.w (upd H g.objs.size (.frz o (.tup ys))) (g.push o) g.objs.size (.frz o (.tup ys)) := ⟨Heap.get?_push_size _ rfl, hz, its, rv, IsTup.new _ _⟩
  exact ⟨.ref g.objs.size, _, I1.laid (t' := s.toks) (fun b u e => Heap.get?_push_of_some _ e) (Nat.le_refl _) ok, rfl, q _ o rfl rfl (I1.hok.fresh (Nat.le_refl _))⟩
def tBMT (r : V → List V → Hp → VK → Prop) (to : TE) (t : TA) : TE := fun σ H Q => to σ H fun x H1 => (∃ (a : Addr) (xs : List V), x = .ref a ∧ FrzT H1 a xs) ∧ t σ H1 fun vs H2 => r x vs H2 Q
variable {o e : Expr} {es : List Expr} {to : TE} {t : TA} {name id : String} {apos cpos : Pos} {r : V → List V → Hp → VK → Prop}
theorem pe_bmT (slot : Slot "tuple" name id) (des : typeOf (.builtin id) = pure (.type "method_descriptor")) (hm : MtR X id r) (ho : PE X o to) (ha : PA X (e :: es) t)
    (plainO : attributeBase o name X.env (eval o X.env) = eval o X.env := by rfl)
    (form : ((backTo cpos (starEach (e :: es) X.env)).all (fun x => !x.1) && (backToKw cpos (keywordEach [] X.env)).all (fun x => x.1.isSome) && decide ((e :: es).length + ([] : List Keyword).length + (if ([] : List Keyword).isEmpty then 0 else 1) < 30)) = true := by rfl)
    (row : (apos.endLine == cpos.line) = true := by rfl) (trees : starEach (e :: es) X.env = (false, eval e X.env) :: starEach es X.env := by rfl)
    (noStar : (backTo cpos (starEach es X.env)).any (·.1) = false := by rfl) : PE X (.Call (.Attribute o name apos) (e :: es) [] cpos) (tBMT r to t) := by
  refine ⟨fun pins s σ H Q I h => wpAny_Call_method_late plainO form row rfl (thn (ho.run pins s σ H _ I h) fun v s1 ⟨x, H1, I1, r1, ⟨a, xs, ex, o1, c1, d1, f1⟩, q1⟩ => ?_)⟩
  subst ex
  cases r1
  obtain ⟨got, _⟩ := I1.hok a _ f1
  refine ⟨"tuple", id, PySem.F.plainAttrs_tuple, slot, des, ⟨o1, got, c1⟩, fun b eb => ?_, ?_⟩
  · cases eb
    exact ⟨o1, got, d1⟩
  · have run := ha.run cpos pins s1 σ H1 _ I1 q1
    rw [trees] at run ⊢
    refine Calls.callWith_builtin ?_ (Calls.evalArgs_plain (thn run fun us s2 ⟨vs, H2, I2, r2, q2⟩ => hm pins s2 σ H2 (.ref a) vs (.ref a) us Q I2 rfl r2 q2))
    show (false || (backTo cpos (starEach es X.env)).any (·.1)) = false
    rw [noStar]
    rfl
end
/-! ### generator expressions whose elements are new objects -/
/-- a value that is brought at a place, with the objects that were made for it -/
abbrev Bring : Type := Nat → Value → List (Addr × Obj) → Prop
def bringP (C : Addr) (fp wr : List Addr) (pz : Nat → Bool) (n : Nat) (B : Bring) : Protocol := fun m s0 v s back =>
  (∃ i news, (passing pz n 0)[(passing pz n 0).length - 1 - m]? = some i ∧ B i v news ∧ (news.map Prod.fst).Nodup ∧ ∀ p ∈ news, p.1 ≠ C ∧ p.1 ∉ wr ∧ s0.heap.get? p.1 = none ∧ s.heap.get? p.1 = some p.2) ∧
  GenSince C wr s0 s ∧ ∀ z : Shared, (∀ b ∈ C :: fp, ∀ o, s.heap.get? b = some o → z.heap.get? b = some o) → back (.send .none) z
def endP (C : Addr) (wr : List Addr) : GenEnd := fun k s0 r s => r = .ok .next ∧ (k = 0 ∧ GenSince C wr s0 s)
structure Makes (P : Program) (w : World) (env : Env) (x : Str) (ifs : List Expr) (elt : Expr) (fp wr : List Addr) (It : Nat → Value → Prop) (pz : Nat → Bool) (B : Bring) (h0 : Heap) : Prop where
  quiet : QuietGen P w env x ifs elt fp wr It pz (fun _ _ => True) h0
  makes : ∀ (A' : Around) E' i v (s : Shared) m, A'.handled = none → It i v → pz i = true → s.heap.Ns env.locals m → m x = some v → (∀ b ∈ fp, b ∉ wr → ∀ o, h0.get? b = some o → s.heap.get? b = some o) →
    wpAny (model P w) A' (eval elt env) (fun y s2 => (∃ news, B i y news ∧ (news.map Prod.fst).Nodup ∧ ∀ p ∈ news, s.heap.get? p.1 = none ∧ s2.heap.get? p.1 = some p.2) ∧ PySem.Keeps s s2) E' s
theorem since_get {C : Addr} {wr : List Addr} {s0 s : Shared} (g : GenSince C wr s0 s) {b : Addr} (h1 : b ≠ C) (h2 : b ∉ wr) (h : s.heap.get? b = none) : s0.heap.get? b = none := by
  obtain ⟨h', t, rfl, k⟩ := g
  cases e : s0.heap.get? b with
  | none => rfl
  | some o => rw [k b o h1 h2 e] at h; cases h
section
variable {P : Program} {w : World} {A : Around} {elt iter : Expr} {x : Str} {px pos : Pos} {ifs : List Expr} {scope : Scope} {I : Addr} {fp wr : List Addr} {n : Nat} {It : Nat → Value → Prop} {St : Nat → Heap → Prop} {env : Env} {pz : Nat → Bool} {B : Bring} {h0 : Heap}
theorem bring_loop (calm : A.handled = none) (W : ∀ A' : Around, A'.handled = none → Walks P w A' I fp wr n It St) (live : ∀ i h, St i h → ∀ b ∈ wr, ∃ o, h.get? b = some o) (hx : env.kindOf x = some .local)
    (hk : (env.scope.kind == .class || (env.scope.kind == .module && env.locals != env.globals)) = false) (co : env.scope.isCoroutine = false) (out : env.locals ∉ fp) (M : Makes P w env x ifs elt fp wr It pz B h0) (k : Nat) :
    ∀ (i : Nat) (s0 s : Shared) (m : Str → Option Value), n - i = k → i ≤ n → St i s.heap → s.heap.Ns env.locals m → GenSince env.locals wr s0 s → (∀ b ∈ fp, b ∉ wr → ∀ o, h0.get? b = some o → s.heap.get? b = some o) →
      Seg (model P w) A (endP env.locals wr) (bringP env.locals fp wr pz n B) (passing pz n i).length s0 (.compLoop (.GeneratorExp elt [⟨.Name x px, iter, ifs, 0⟩] scope pos) 0 (.ref I) .none env)
        ((model P w).den (.compLoop (.GeneratorExp elt [⟨.Name x px, iter, ifs, 0⟩] scope pos) 0 (.ref I) .none env)) [] s := by
  have calm2 : (A.over (.compLoop (.GeneratorExp elt [⟨.Name x px, iter, ifs, 0⟩] scope pos) 0 (.ref I) .none env) []).handled = none := calm
  have notw : env.locals ∉ wr := fun z => out ((W A calm).sub _ z)
  induction k with
  | zero =>
    intro i s0 s m e le st ns since kp
    obtain rfl : i = n := by omega
    refine (?_ : Seg _ A _ _ _ s0 _ ((compTurn (.GeneratorExp elt [⟨.Name x px, iter, ifs, 0⟩] scope pos) 0 (.ref I) .none env).onRaise (leaving env)) [] s)
    rw [Sem.onRaise_eq_wrap, compTurn_gen]
    refine seg_bind_wrap (wpAny_standAt (seg_bind_wrap ((W _ calm2).done s _ _ st fun h' t k' => seg_end (.ok .next) ⟨rfl, ?_, since.step fun b o _ hw e => k' b o hw e⟩)))
    rw [passing_end]
    rfl
  | succ k ih =>
    intro i s0 s m e le st ns since kp
    have lt : i < n := by omega
    refine (?_ : Seg _ A _ _ _ s0 _ ((compTurn (.GeneratorExp elt [⟨.Name x px, iter, ifs, 0⟩] scope pos) 0 (.ref I) .none env).onRaise (leaving env)) [] s)
    rw [Sem.onRaise_eq_wrap, compTurn_gen]
    refine seg_bind_wrap (wpAny_standAt (seg_bind_wrap ((W _ calm2).item i s _ _ lt st fun v h1 t1 hv st1 k1 => seg_bind_wrap (wpAny_of_eq (rfl : letOwnedTupleGo (.Name x px) (.ref I) v = pure ()) (seg_bind_wrap (wpAny_assign_Name (wpAny_storeName_local hx (ns.at' fun o e => k1 _ o notw e) (fun h2 ns2 same2 => ?_) hk)))))))
    have old2 : ∀ b o, b ≠ env.locals → b ∉ wr → s.heap.get? b = some o → h2.get? b = some o := fun b o z1 z2 e => same2.extBut b o z1 (k1 b o z2 e)
    have st2 : St (i + 1) h2 := (W A calm).frame _ _ _ st1 fun b hb o e => same2.extBut b o (fun z => out (z ▸ hb)) e
    have kp2 : ∀ b ∈ fp, b ∉ wr → ∀ o, h0.get? b = some o → h2.get? b = some o := fun b hb z o e => old2 b o (fun y => out (y ▸ hb)) z (kp b hb z o e)
    refine seg_bind_wrap (wpAny_mono (M.quiet.tests _ _ i v _ _ calm2 hv ns2 (by simp) kp2) (fun ok s3 q => ?_) fun _ _ z => z)
    obtain ⟨rfl, h3, t3, rfl, k3⟩ := q
    have st3 : St (i + 1) h3 := (W A calm).frame _ _ _ st2 fun b _ o e => k3 b o e
    have since3 : GenSince env.locals wr s0 { s with heap := h3, toks := t3 } := since.step fun b o z1 z2 e => k3 b o (old2 b o z1 z2 e)
    have ns3 := ns2.keeps k3
    cases hp : pz i with
    | false =>
      rw [passing_false lt hp]
      rw [if_neg (by decide)]
      exact seg_again rfl (ih (i + 1) s0 _ _ (by omega) lt st3 ns3 since3 fun b hb z o e => k3 b o (kp2 b hb z o e))
    | true =>
      have yo : ∀ u, yieldOut env u = yieldValue u := fun u => by simp only [yieldOut, co, Bool.false_eq_true, if_false]
      rw [passing_true lt hp, List.length_cons, if_pos rfl]
      simp only [yo]
      rw [Sem.bind_eq_wrap', Sem.bind_eq_wrap', Sem.wrap_wrap, Sem.wrap_wrap]
      refine seg_wrap (wpAny_mono (M.makes _ _ i v _ _ calm2 hv hp ns3 (by simp) fun b hb z o e => k3 b o (kp2 b hb z o e)) (fun y s4 q => ?_) fun _ _ z => z)
      obtain ⟨⟨news, hB, nd, hn⟩, h4, t4, rfl, k4⟩ := q
      refine seg_at (seg_yield rfl rfl rfl ⟨⟨i, news, passing_here lt hp, hB, nd, fun p hp' => ?_⟩, since3.step fun b o _ _ e => k4 b o e, fun z hz => ?_⟩)
      · obtain ⟨n1, n2⟩ := hn p hp'
        have c1 : p.1 ≠ env.locals := fun e => by
          obtain ⟨ob, es, ep, ho, _⟩ := ns3
          rw [e] at n1
          exact absurd (ho.symm.trans n1) (by simp)
        have c2 : p.1 ∉ wr := fun hw => by
          obtain ⟨ob, ho⟩ := live _ _ st3 p.1 hw
          exact absurd (ho.symm.trans n1) (by simp)
        exact ⟨c1, c2, since_get since3 c1 c2 n1, n2⟩
      · exact seg_again rfl (ih (i + 1) z z _ (by omega) lt ((W A calm).frame _ _ _ st3 fun b hb o e => hz b (List.mem_cons_of_mem _ hb) o (k4 b o e)) ((ns3.keeps k4).at' fun o e => hz _ (List.mem_cons_self ..) o e) (GenSince.refl _ _ _)
          fun b hb y o e => hz b (List.mem_cons_of_mem _ hb) o (k4 b o (k3 b o (kp2 b hb y o e))))
end
/-! ### such an expression, started and drawn from -/
def Ready (P : Program) (w : World) (A : Around) (a : Addr) (g : Nat) (C : Addr) (fp wr : List Addr) (pz : Nat → Bool) (n : Nat) (B : Bring) (j : Nat) (s : Shared) : Prop :=
  s.heap.IsGen a g ∧ s.heap.NoLimit ∧ ∃ gs, s.gens[g]? = some gs ∧ ∀ z : Shared, (∀ b ∈ C :: fp, ∀ o, s.heap.get? b = some o → z.heap.get? b = some o) →
    gs.Goes (model P w) A.in1 (endP C wr) (bringP C fp wr pz n B) ((passing pz n 0).length - j) (.send .none) z
section
variable {P : Program} {w : World} {A : Around} {a C : Addr} {g : Nat} {fp wr : List Addr} {pz : Nat → Bool} {n j : Nat} {B : Bring} {s : Shared}
theorem Ready.keep {h' : Heap} {t : Nat} (R : Ready P w A a g C fp wr pz n B j s) (hcs : cStatics ∈ fp) (k : ∀ b ∈ a :: C :: fp, ∀ o, s.heap.get? b = some o → h'.get? b = some o) : Ready P w A a g C fp wr pz n B j { s with heap := h', toks := t } := by
  obtain ⟨⟨o, nm, qn, ho, r⟩, ⟨mc, c1, c2⟩, gs, e, go⟩ := R
  exact ⟨⟨o, nm, qn, k a (List.mem_cons_self ..) o ho, r⟩, ⟨mc, c1.at' fun o e => k cStatics (List.mem_cons_of_mem _ (List.mem_cons_of_mem _ hcs)) o e, c2⟩, gs, e, fun z hz => go z fun b hb o e => hz b hb o (k b (List.mem_cons_of_mem _ hb) o e)⟩
/-- where it stands: its own address, the frame's, what it goes over -/
structure Apart (A : Around) (a C : Addr) (fp wr : List Addr) : Prop where
  calm : A.handled = none
  aC : a ≠ C
  af : a ∉ fp
  sub : ∀ b ∈ wr, b ∈ fp
  room : A.depth < recursionLimit
  cs : cStatics ∈ fp
  csC : cStatics ≠ C
  csw : cStatics ∉ wr
theorem Ready.next (R : Ready P w A a g C fp wr pz n B j s) (T : Apart A a C fp wr) (hj : j < (passing pz n 0).length) {Q : Option Value → Shared → Prop} {E : Value → Shared → Prop}
    (q : ∀ v s' i news, (passing pz n 0)[j]? = some i → B i v news → (news.map Prod.fst).Nodup → (∀ p ∈ news, p.1 ≠ C ∧ p.1 ∉ wr ∧ s.heap.get? p.1 = none ∧ s'.heap.get? p.1 = some p.2) → Ready P w A a g C fp wr pz n B (j + 1) s' → Moved (C :: wr) (GenOnlyQ g) s s' → Q (some v) s') :
    wpAny (model P w) A (pyNext (.ref a)) Q E s := by
  obtain ⟨isg, lim, gs, e, go⟩ := R
  obtain ⟨m, hm⟩ : ∃ m, (passing pz n 0).length - j = m + 1 := ⟨(passing pz n 0).length - j - 1, by omega⟩
  rw [hm] at go
  have aw : a ∉ wr := fun z => T.af (T.sub a z)
  refine wpAny_with_toks (Nat.le_refl s.toks) (wpAny_pyNext_genexpQ (P := fun k s0 s1 => k = 0 ∧ GenSince C wr s0 s1) T.calm lim T.room isg e (go _ fun _ _ _ z => z) (fun v s1 gs' bare hv => ?_) (fun s1 z _ _ => absurd z.1 (Nat.succ_ne_zero m)))
  obtain ⟨⟨i, news, at_, hB, nd, hn⟩, ⟨h1, t1, rfl, k1⟩, back⟩ := hv
  rw [show (passing pz n 0).length - 1 - (m + 1 - 1) = j by omega] at at_
  intro tk
  have mv : Moved (C :: wr) (GenOnlyQ g) s (({ s.setGen g .running with heap := h1, toks := t1 } : Shared).setGen g gs') :=
    ⟨fun b o hb z => k1 b o (fun y => hb (y ▸ List.mem_cons_self ..)) (fun y => hb (List.mem_cons_of_mem _ y)) z, GenOnlyQ.of ((GenOnly.setGen s g .running).trans (GenOnly.setGen _ g gs')) (setGen_self (gs := .running) (setGen_self e)) bare, rfl, rfl, tk⟩
  refine q v _ i news at_ hB nd hn ⟨?_, ?_, gs', setGen_self (gs := .running) (setGen_self e), fun z hz => ?_⟩ mv
  · obtain ⟨o, nm, qn, ho, r⟩ := isg
    exact ⟨o, nm, qn, k1 a o T.aC aw ho, r⟩
  · obtain ⟨mc, c1, c2⟩ := lim
    exact ⟨mc, c1.at' fun o z => k1 cStatics o T.csC T.csw z, c2⟩
  · rw [show (passing pz n 0).length - (j + 1) = m by omega]
    exact back z hz
theorem Ready.done (R : Ready P w A a g C fp wr pz n B j s) (T : Apart A a C fp wr) (hj : j = (passing pz n 0).length) {Q : Option Value → Shared → Prop} {E : Value → Shared → Prop} (q : ∀ s', Moved (C :: wr) (GenOnlyQ g) s s' → Q none s') :
    wpAny (model P w) A (pyNext (.ref a)) Q E s := by
  obtain ⟨isg, lim, gs, e, go⟩ := R
  rw [hj, Nat.sub_self] at go
  refine wpAny_with_toks (Nat.le_refl s.toks) (wpAny_pyNext_genexpQ (P := fun k s0 s1 => k = 0 ∧ GenSince C wr s0 s1) T.calm lim T.room isg e (go _ fun _ _ _ z => z) (fun v s1 gs' _ hv => ?_) (fun s1 hp h' k => ?_))
  · obtain ⟨_, _, back⟩ := hv
    exact (back s1 fun _ _ _ z => z).elim
  · obtain ⟨_, h1, t1, rfl, k1⟩ := hp
    intro tk
    exact q _ ⟨fun b o hb z => k b o (k1 b o (fun y => hb (y ▸ List.mem_cons_self ..)) (fun y => hb (List.mem_cons_of_mem _ y)) z), GenOnlyQ.of ((GenOnly.setGen s g .running).trans (GenOnly.setGen _ g .finished)) (setGen_self (gs := .running) (setGen_self e)) rfl, rfl, rfl, tk⟩
/-- what has been brought so far: the values, and for each the objects made for it, none of which was there at first -/
structure Sofar (pz : Nat → Bool) (n : Nat) (B : Bring) (wr : List Addr) (h0 : Heap) (j : Nat) (acc : Array Value) (nss : List (List (Addr × Obj))) (s : Shared) : Prop where
  size : acc.size = j
  len : nss.length = j
  each : ∀ (k : Nat) v news, acc[k]? = some v → nss[k]? = some news → ∃ i, (passing pz n 0)[k]? = some i ∧ B i v news
  nd : (nss.flatten.map Prod.fst).Nodup
  there : ∀ p ∈ nss.flatten, p.1 ∉ wr ∧ h0.get? p.1 = none ∧ s.heap.get? p.1 = some p.2
theorem Sofar.more {h0 : Heap} {acc : Array Value} {nss : List (List (Addr × Obj))} {v : Value} {i : Nat} {news : List (Addr × Obj)} {s' : Shared} (F : Sofar pz n B wr h0 j acc nss s) (hi : (passing pz n 0)[j]? = some i) (hB : B i v news) (nd : (news.map Prod.fst).Nodup)
    (old : ∀ b o, b ∉ wr → s.heap.get? b = some o → s'.heap.get? b = some o) (fr : ∀ p ∈ news, p.1 ∉ wr ∧ h0.get? p.1 = none ∧ s.heap.get? p.1 = none ∧ s'.heap.get? p.1 = some p.2) : Sofar pz n B wr h0 (j + 1) (acc.push v) (nss ++ [news]) s' := by
  refine ⟨by rw [Array.size_push, F.size], by rw [List.length_append, List.length_singleton, F.len], fun k u ns h1 h2 => ?_, ?_, fun p hp => ?_⟩
  · rw [Array.getElem?_push, F.size] at h1
    by_cases e : k = j
    · subst e
      rw [if_pos rfl] at h1
      rw [List.getElem?_append_right (by rw [F.len]; exact Nat.le_refl _), F.len, Nat.sub_self] at h2
      cases h1
      cases h2
      exact ⟨i, hi, hB⟩
    · rw [if_neg e] at h1
      have lt : k < j := by rw [← F.size]; exact (Array.getElem?_eq_some_iff.mp h1).1
      rw [List.getElem?_append_left (by rw [F.len]; exact lt)] at h2
      exact F.each k u ns h1 h2
  · rw [List.flatten_append, List.map_append, List.flatten_singleton]
    refine List.nodup_append.mpr ⟨F.nd, nd, fun b hb c hc z => ?_⟩
    obtain ⟨p, hp, e1⟩ := List.mem_map.mp hb
    obtain ⟨r, hr, e2⟩ := List.mem_map.mp hc
    have y1 := (F.there p hp).2.2
    have y2 := (fr r hr).2.2.1
    rw [e1, z, ← e2, y2] at y1
    cases y1
  · rw [List.flatten_append, List.flatten_singleton] at hp
    rcases List.mem_append.mp hp with z | z
    · obtain ⟨z1, z2, z3⟩ := F.there p z
      exact ⟨z1, z2, old _ _ z1 z3⟩
    · obtain ⟨z1, z2, _, z3⟩ := fr p z
      exact ⟨z1, z2, z3⟩
end
/-! ### tuple(..) of such an expression -/
abbrev listO (acc : Array Value) (c : Nat) : Obj := { cls := .type "list", dict := none, data := .seq acc c, slots := #[] }
section
variable {P : Program} {w : World} {D : Around} {a C S : Addr} {g : Nat} {fp wr : List Addr} {pz : Nat → Bool} {n : Nat} {B : Bring} {h0 : Heap} {R : Result → Shared → Prop}
theorem bring_extend (T : Apart D.in1.in1 a C fp wr) (few : (passing pz n 0).length ≤ sizeLine) (Sa : S ≠ a) (SC : S ≠ C) (Sf : S ∉ fp) (res : Value) (k : Nat) : ∀ (j : Nat) (s : Shared) (acc : Array Value) (c : Nat) (nss : List (List (Addr × Obj))),
    (passing pz n 0).length - j = k → j ≤ (passing pz n 0).length → Ready P w D.in1.in1 a g C fp wr pz n B j s → s.heap.get? S = some (listO acc c) → Sofar pz n B (S :: C :: wr) h0 j acc nss s → (∀ b o, b ∉ S :: C :: wr → h0.get? b = some o → s.heap.get? b = some o) →
    (∀ s' acc' c' nss', Moved (S :: C :: wr) (GenOnlyQ g) s s' → s'.heap.get? S = some (listO acc' c') → Sofar pz n B (S :: C :: wr) h0 (passing pz n 0).length acc' nss' s' → R (.ok (.ret res)) s') →
      codeAny (model P w) D (.builtin "list.extend.loop" ⟨[.ref S, .ref a, res], []⟩) R s := by
  have Sw : S ∉ C :: wr := fun z => (List.mem_cons.mp z).elim SC fun y => Sf (T.sub _ y)
  have wider : ∀ b ∈ C :: wr, b ∈ S :: C :: wr := fun b hb => List.mem_cons_of_mem _ hb
  have gt : ∀ x y z, GenOnlyQ g x y → GenOnlyQ g y z → GenOnlyQ g x z := fun _ _ _ x y => x.trans y
  induction k with
  | zero =>
    intro j s acc c nss e le rd hS F old q
    have ej : j = (passing pz n 0).length := by omega
    refine codeAny_builtin PySem.F.entry_extend_loop ?_
    rw [Around.under_plainId PySem.F.plain_extend_loop _]
    refine (?_ : wpAny _ D.in1 (pyNext (.ref a) >>= _) _ _ s)
    refine wpAny_bind (wpAny_of_in1 (rd.done T ej fun s' mv => wpAny_pure (q s' acc c nss (mv.mono wider) (mv.heap S _ Sw hS) ?_)))
    rw [← ej]
    exact ⟨F.size, F.len, F.each, F.nd, fun p hp => let ⟨z1, z2, z3⟩ := F.there p hp; ⟨z1, z2, mv.heap _ _ (fun y => z1 (wider _ y)) z3⟩⟩
  | succ k ih =>
    intro j s acc c nss e le rd hS F old q
    refine codeAny_builtin PySem.F.entry_extend_loop ?_
    rw [Around.under_plainId PySem.F.plain_extend_loop _]
    refine (?_ : wpAny _ D.in1 (pyNext (.ref a) >>= _) _ _ s)
    refine wpAny_bind (wpAny_of_in1 (rd.next T (by omega) fun v s' i news hi hB nd hn rd' mv => ?_))
    have hS' := mv.heap S _ Sw hS
    refine (?_ : wpAny _ D.in1 (updateSeq S (·.push v) >>= _) _ _ s')
    have other : ∀ b o, b ≠ S → s'.heap.get? b = some o → (s'.heap.update S (Obj.mapSeq (·.push v))).get? b = some o := fun b o hb z => (Heap.get?_update_other _ _ (Ne.symm hb)).trans z
    have far : ∀ p ∈ news, p.1 ≠ S := fun p hp z => by
      have y := (hn p hp).2.2.1
      rw [z, hS] at y
      cases y
    have out : ∀ p ∈ news, p.1 ∉ S :: C :: wr := fun p hp z => by
      rcases List.mem_cons.mp z with y | y
      · exact far p hp y
      · rcases List.mem_cons.mp y with y | y
        · exact (hn p hp).1 y
        · exact (hn p hp).2.1 y
    have up : ∀ b o, b ∉ S :: C :: wr → s.heap.get? b = some o → (s'.heap.update S (Obj.mapSeq (·.push v))).get? b = some o := fun b o hb z => other b o (fun y => hb (y ▸ List.mem_cons_self ..)) (mv.heap b o (fun y => hb (List.mem_cons_of_mem _ y)) z)
    have F' : Sofar pz n B (S :: C :: wr) h0 (j + 1) (acc.push v) (nss ++ [news]) { s' with heap := s'.heap.update S (Obj.mapSeq (·.push v)) } := F.more hi hB nd up fun p hp => by
      refine ⟨out p hp, ?_, (hn p hp).2.2.1, other _ _ (far p hp) (hn p hp).2.2.2⟩
      cases z : h0.get? p.1 with
      | none => rfl
      | some o =>
        have y := old _ _ (out p hp) z
        rw [(hn p hp).2.2.1] at y
        cases y
    have rd2 : Ready P w D.in1.in1 a g C fp wr pz n B (j + 1) { s' with heap := s'.heap.update S (Obj.mapSeq (·.push v)) } := rd'.keep (t := s'.toks) T.cs fun b hb o z => other b o (fun y => by
      rcases List.mem_cons.mp hb with x | x
      · exact Sa (y ▸ x)
      · rcases List.mem_cons.mp x with x | x
        · exact SC (y ▸ x)
        · exact Sf (y ▸ x)) z
    refine wpAny_bind (wpAny_updateSeq hS' rfl (wpAny_pure ⟨plainId_quiet PySem.F.plain_extend_loop _, ih (j + 1) _ (acc.push v) _ (nss ++ [news]) (by omega) (by omega) rd2 (Heap.get?_update_self _ hS' rfl) F' (fun b o hb z => up b o hb (old b o hb z)) fun s2 acc2 c2 nss2 mv2 hS2 F2 => ?_⟩) (by rw [F.size]; omega) (by show (acc.push v).size ≤ sizeLine + 1; rw [Array.size_push, F.size]; omega))
    exact q s2 acc2 c2 nss2 (Moved.trans gt ((mv.mono wider).then_heap (by first | exact Nat.le_refl _ | exact Nat.le_succ _ | omega) fun b o hb z => other b o (fun y => hb (y ▸ List.mem_cons_self ..)) z) mv2) hS2 F2
end
section
variable {P : Program} {w : World} {A : Around} {E : Value → Shared → Prop} {s : Shared} {a C : Addr} {g : Nat} {fp wr : List Addr} {pz : Nat → Bool} {n : Nat} {B : Bring}
theorem bring_collect {Q : List Value → Shared → Prop} (T : Apart A.in1.in1 a C fp wr) (rd : Ready P w A.in1.in1 a g C fp wr pz n B 0 s) (few : (passing pz n 0).length ≤ sizeLine) (al : a < s.heap.objs.size) (Cl : C < s.heap.objs.size) (fl : ∀ b ∈ fp, b < s.heap.objs.size)
    (q : ∀ s' acc nss, Moved (C :: wr) (GenOnlyQ g) s s' → Sofar pz n B (C :: wr) s.heap (passing pz n 0).length acc nss s' → Q acc.toList s') : wpAny (model P w) A (collect (.ref a)) Q E s := by
  have gt : ∀ x y z, GenOnlyQ g x y → GenOnlyQ g y z → GenOnlyQ g x z := fun _ _ _ x y => x.trans y
  have isG : ∀ z : Shared, z.heap.IsGen a g → z.TypeIs (.ref a) "generator" := fun z h => h.typeIs
  have Sf : s.heap.objs.size ∉ fp := fun z => Nat.lt_irrefl _ (fl _ z)
  have Sa : s.heap.objs.size ≠ a := fun z => Nat.lt_irrefl _ (z ▸ al)
  have SC : s.heap.objs.size ≠ C := fun z => Nat.lt_irrefl _ (z ▸ Cl)
  have gen0 := rd.1
  have rd1 : Ready P w A.in1.in1 a g C fp wr pz n B 0 { s with heap := s.heap.push { cls := .type "list", data := .seq ([] : List Value).toArray } } := rd.keep (t := s.toks) T.cs fun b _ o z => Heap.get?_push_of_some _ z
  unfold collect
  refine wpAny_bind (wpAny_runValue (codeAny_builtin PySem.F.entry_proto_collect ?_))
  rw [Around.under_plainId PySem.F.plain_proto_collect _]
  refine (?_ : wpAny _ A.in1 (newList [] >>= fun l => again (.builtin "list.__iadd__" ⟨[l, .ref a], []⟩)) _ _ s)
  refine wpAny_bind (wpAny_newObj_type (wpAny_pure ⟨plainId_quiet PySem.F.plain_list_iadd _, codeAny_builtin PySem.F.entry_list_iadd ?_⟩))
  rw [Around.under_plainId PySem.F.plain_list_iadd _]
  refine (?_ : wpAny _ A.in1 (Builtin.List.listExtendWith (.ref s.heap.objs.size) (.ref a) (.ref s.heap.objs.size)) _ _ _)
  unfold Builtin.List.listExtendWith
  refine wpAny_bind (wpAny_typeOf (isG _ rd1.1) ?_)
  simp only [show Builtin.List.listSameRef (.ref s.heap.objs.size) (.ref a) = false by simp [Builtin.List.listSameRef, Sa], show (Value.type "generator" == Value.type "list") = false by decide, show (Value.type "generator" == Value.type "tuple") = false by decide, Bool.or_false, Bool.false_eq_true, if_false]
  refine wpAny_bind (wpAny_pyIter_gen rd1.1 (wpAny_bind (wpAny_holding ?_)))
  unfold Builtin.List.listLengthHint
  refine wpAny_bind (wpAny_specialOf (isG _ rd1.1) PySem.F.gen_no_len ?_)
  refine (?_ : wpAny _ A.in1 (specialOf (Value.ref a) (Str.ofString "__length_hint__") >>= _) _ _ _)
  refine wpAny_bind (wpAny_specialOf (isG _ rd1.1) PySem.F.gen_no_hint (wpAny_pure ?_))
  refine (?_ : wpAny _ A.in1 (rule "list.extend.makes-room" >>= fun _ => Builtin.List.listTouch (.ref s.heap.objs.size) >>= fun _ => again (.builtin "list.extend.loop" ⟨[.ref s.heap.objs.size, .ref a, .ref s.heap.objs.size], []⟩)) _ _ _)
  have L1 : (s.heap.push { cls := .type "list", data := .seq ([] : List Value).toArray }).get? s.heap.objs.size = some { cls := .type "list", data := .seq ([] : List Value).toArray } := Heap.get?_push_size _ rfl
  refine wpAny_bind (wpAny_rule (wpAny_bind ?_))
  refine (?_ : wpAny _ A.in1 (updateSeq s.heap.objs.size (·.push .none) >>= fun _ => updateSeq s.heap.objs.size (·.pop)) _ _ _)
  refine wpAny_bind (wpAny_updateSeq L1 rfl ?_)
  have L2' := Heap.get?_update_self (Obj.mapSeq (·.push Value.none)) L1 rfl
  refine wpAny_updateSeq L2' rfl ?_
  have L3 := Heap.get?_update_self (Obj.mapSeq (·.pop)) L2' rfl
  have oth : ∀ b o, b ≠ s.heap.objs.size → (s.heap.push { cls := .type "list", data := .seq ([] : List Value).toArray }).get? b = some o →
      (((s.heap.push { cls := .type "list", data := .seq ([] : List Value).toArray }).update s.heap.objs.size (Obj.mapSeq (·.push Value.none))).update s.heap.objs.size (Obj.mapSeq (·.pop))).get? b = some o :=
    fun b o hb z => (Heap.get?_update_other _ _ (Ne.symm hb)).trans ((Heap.get?_update_other _ _ (Ne.symm hb)).trans z)
  have old0 : ∀ b o, s.heap.get? b = some o → (((s.heap.push { cls := .type "list", data := .seq ([] : List Value).toArray }).update s.heap.objs.size (Obj.mapSeq (·.push Value.none))).update s.heap.objs.size (Obj.mapSeq (·.pop))).get? b = some o :=
    fun b o z => oth b o (fun y => Nat.lt_irrefl _ (y ▸ Heap.lt_size z)) (Heap.get?_push_of_some _ z)
  refine wpAny_pure ⟨plainId_quiet PySem.F.plain_extend_loop _, bring_extend T few Sa SC Sf _ _ 0 _ _ _ [] rfl (Nat.zero_le _)
    (rd1.keep (t := s.toks) T.cs fun b hb o z => oth b o (fun y => ?_) z) L3 ⟨rfl, rfl, fun k v ns h _ => by simp at h, List.nodup_nil, fun p hp => (List.not_mem_nil hp).elim⟩ (fun b o _ z => old0 b o z) fun s' acc c nss mv hS F => ?_⟩
  · rcases List.mem_cons.mp hb with x | x
    · exact Sa (y.symm.trans x)
    · rcases List.mem_cons.mp x with x | x
      · exact SC (y.symm.trans x)
      · exact Sf (y ▸ x)
  · refine (?_ : wpAny _ A (load s.heap.objs.size >>= _) _ _ s')
    refine wpAny_bind (wpAny_load hS (wpAny_pure (q s' acc nss ?_ ⟨F.size, F.len, F.each, F.nd, fun p hp => let ⟨z1, z2, z3⟩ := F.there p hp; ⟨fun y => z1 (List.mem_cons_of_mem _ y), z2, z3⟩⟩)))
    exact Moved.drop_new (o := { cls := .type "list", data := .seq ([] : List Value).toArray }) (tk := s.toks) (Moved.trans gt ((Moved.refl fun _ => .inl rfl).then_heap (by first | exact Nat.le_refl _ | exact Nat.le_succ _ | omega) fun b o hb z => oth b o (fun y => hb (y ▸ List.mem_cons_self)) z) mv) (Nat.le_refl _)
theorem bring_new {Q : Value → Shared → Prop} (T : Apart A.in1.in1.in1 a C fp wr) (rd : Ready P w A.in1.in1.in1 a g C fp wr pz n B 0 s) (few : (passing pz n 0).length ≤ sizeLine) (al : a < s.heap.objs.size) (Cl : C < s.heap.objs.size) (fl : ∀ b ∈ fp, b < s.heap.objs.size)
    (q : ∀ s' acc nss, Moved (C :: wr) (GenOnlyQ g) s s' → Sofar pz n B (C :: wr) s.heap (passing pz n 0).length acc nss s' → Q (.ref s'.heap.objs.size) { s' with heap := s'.heap.push { cls := .type "tuple", data := .seq acc } }) :
    codeAny (model P w) A (.call (.builtin "tuple.__new__") ⟨[.type "tuple", .ref a], []⟩) (wants Q E) s := by
  refine codeAny_of_tree ?_
  refine (?_ : wpAny _ A.in1 (do checkBuiltinCall "tuple.__new__" ⟨[.type "tuple", .ref a], []⟩; again (.builtin "tuple.__new__" ⟨[.type "tuple", .ref a], []⟩)) _ _ s)
  refine wpAny_bind (wpAny_of_eq (PySem.F.newCall_tuple_1 _) (wpAny_pure ⟨plainId_quiet PySem.F.plain_tuple_new _, codeAny_builtin PySem.F.entry_tuple_new ?_⟩))
  rw [Around.under_plainId PySem.F.plain_tuple_new _]
  have ⟨k1, k2, k3, k4⟩ := And.intro sub_tuple_self (And.intro init_tuple_lookup (And.intro madeHere_tuple rd.1.typeIs))
  wp_walk using wpAny_typeOf k4, bring_collect T rd few al Cl fl
  intro s' acc nss mv F
  refine (?_ : wpAny _ A.in1 (Builtin.Tuple.tupleExact acc.toList.toArray >>= fun v => ret v) _ _ _)
  unfold Builtin.Tuple.tupleExact
  have sz : acc.toList.toArray.size ≤ sizeLine := by simp only [Array.toArray_toList]; rw [F.size]; exact few
  refine wpAny_bind (wpAny_newObj_type (wpAny_pure ?_) sz)
  rw [show acc.toList.toArray = acc by simp]
  exact q s' acc nss mv F
theorem bring_tuple {Q : Value → Shared → Prop} (T : Apart A.in1.in1.in1.in1 a C fp wr) (rd : Ready P w A.in1.in1.in1.in1 a g C fp wr pz n B 0 s) (few : (passing pz n 0).length ≤ sizeLine) (al : a < s.heap.objs.size) (Cl : C < s.heap.objs.size) (fl : ∀ b ∈ fp, b < s.heap.objs.size)
    (q : ∀ s' acc nss, Moved (C :: wr) (GenOnlyQ g) s s' → Sofar pz n B (C :: wr) s.heap (passing pz n 0).length acc nss s' → Q (.ref s'.heap.objs.size) { s' with heap := s'.heap.push { cls := .type "tuple", data := .seq acc } }) :
    wpAny (model P w) A (call (.type "tuple") [.ref a]) Q E s := by
  refine callType_codes (Q₁ := fun obj s1 => s1.TypeIs obj "tuple" ∧ Q obj s1) PySem.F.called_tuple (PySem.F.typeCall_tuple_1 _) PySem.F.entry_object_init (bring_new T rd few al Cl fl fun s' acc nss mv F => ⟨⟨_, Heap.get?_push_size _ rfl, rfl⟩, q s' acc nss mv F⟩) fun obj s1 z => ⟨z.1, PySem.F.args_object_init_2 obj _, ?_⟩
  exact object_init_meets PySem.F.called_tuple.init.lookup PySem.F.called_tuple.made (by decide) P w A.in1 _ s1 ⟨z.1, rfl, z.2⟩
end
/-! ### such an expression over a tuple or a range, in a def's body: tuple(.. for x in ..) told as data -/
section
variable {P : Program} {w : World} {A : Around} {elt iter : Expr} {x : Str} {px pos : Pos} {ifs : List Expr} {scope : Scope} {I a : Addr} {g : Nat} {fp wr : List Addr} {n : Nat} {It : Nat → Value → Prop} {St : Nat → Heap → Prop} {env : Env} {pz : Nat → Bool} {B : Bring}
theorem Ready.fresh {s : Shared} {m : Str → Option Value} (calm : A.handled = none) (W : ∀ A' : Around, A'.handled = none → Walks P w A' I fp wr n It St) (live : ∀ i h, St i h → ∀ b ∈ wr, ∃ o, h.get? b = some o) (hx : env.kindOf x = some .local)
    (hk : (env.scope.kind == .class || (env.scope.kind == .module && env.locals != env.globals)) = false) (co : env.scope.isCoroutine = false) (out : env.locals ∉ fp) (M : Makes P w env x ifs elt fp wr It pz B s.heap) (isg : s.heap.IsGen a g)
    (hg : s.gens[g]? = some (.fresh (.compStart (.GeneratorExp elt [⟨.Name x px, iter, ifs, 0⟩] scope pos) 0 (.ref I) .none env))) (st : St 0 s.heap) (ns : s.heap.Ns env.locals m) (lim : s.heap.NoLimit) : Ready P w A a g env.locals fp wr pz n B 0 s := by
  refine ⟨isg, lim, _, hg, fun z hz => ⟨rfl, ?_⟩⟩
  have st' : St 0 z.heap := (W A calm).frame _ _ _ st fun b hb o e => hz b (List.mem_cons_of_mem _ hb) o e
  have ns' := ns.at' fun o e => hz _ (List.mem_cons_self ..) o e
  have calm2 : (A.in1.over (.compStart (.GeneratorExp elt [⟨.Name x px, iter, ifs, 0⟩] scope pos) 0 (.ref I) .none env) []).handled = none := calm
  have lp := bring_loop (iter := iter) (px := px) (scope := scope) (pos := pos) (A := A.in1) calm W live hx hk co out M n 0 z z m (Nat.sub_zero _) (Nat.zero_le _) st' ns' (GenSince.refl _ _ _) fun b hb _ o e => hz b (List.mem_cons_of_mem _ hb) o e
  refine (?_ : Seg _ A.in1 _ _ _ z _ ((compStart (.GeneratorExp elt [⟨.Name x px, iter, ifs, 0⟩] scope pos) 0 (.ref I) .none env).onRaise (leaving env)) [] z)
  unfold compStart
  rw [Sem.onRaise_eq_wrap]
  refine (?_ : Seg _ A.in1 _ _ _ z _ ((ask >>= _).wrap _ _ _ _) [] z)
  refine seg_bind_wrap (wpAny_askSetting ?_)
  split
  · exact seg_again rfl lp
  · first
      | exact seg_bind_wrap (wpAny_rule (seg_bind_wrap (wpAny_standAt (seg_bind_wrap ((W _ calm2).self 0 z _ _ st' (seg_again rfl lp))))))
      | (refine seg_bind_wrap (wpAny_rule ?_); refine (?_ : Seg _ A.in1 _ _ _ z _ ((standAt iter.pos >>= _).wrap _ _ _ _) [] z); exact seg_bind_wrap (wpAny_standAt (seg_bind_wrap ((W _ calm2).self 0 z _ _ st' (seg_again rfl lp)))))
end
/-- the heap with these tuples -/
def tupsAt : List (Addr × List V) → Hp → Hp
  | [], H => H
  | p :: L, H => upd (tupsAt L H) p.1 (.tup p.2)
theorem tupsAt_out {b : Addr} {H : Hp} : ∀ {L : List (Addr × List V)}, b ∉ L.map Prod.fst → tupsAt L H b = H b
  | [], _ => rfl
  | p :: L, h => by
    rw [List.map_cons, List.mem_cons, not_or] at h
    exact (upd_ne h.1).trans (tupsAt_out h.2)
theorem tupsAt_in {H : Hp} : ∀ {L : List (Addr × List V)}, (L.map Prod.fst).Nodup → ∀ p ∈ L, tupsAt L H p.1 = some (.tup p.2)
  | [], _, p, h => (List.not_mem_nil h).elim
  | r :: L, nd, p, h => by
    rw [List.map_cons, List.nodup_cons] at nd
    rcases List.mem_cons.mp h with e | e
    · rw [e]; exact upd_same
    · have ne : p.1 ≠ r.1 := fun z => nd.1 (z ▸ List.mem_map_of_mem e)
      exact (upd_ne ne).trans (tupsAt_in nd.2 p e)
theorem tupsAt_cases {b : Addr} {H : Hp} : ∀ {L : List (Addr × List V)}, b ∈ L.map Prod.fst → ∃ xs, (b, xs) ∈ L ∧ tupsAt L H b = some (.tup xs)
  | [], h => (List.not_mem_nil h).elim
  | p :: L, h => by
    by_cases e : b = p.1
    · exact ⟨p.2, by rw [e]; exact List.mem_cons_self, by rw [e]; exact upd_same⟩
    · obtain ⟨xs, h1, h2⟩ := tupsAt_cases (H := H) ((List.mem_cons.mp h).resolve_left e)
      exact ⟨xs, List.mem_cons_of_mem _ h1, (upd_ne e).trans h2⟩
section
variable {X : Cx} {pins : List (Addr × Obj)} {σ : L2.St} {H G : Hp} {s s' : Shared} {L : List (Addr × List V)}
theorem Inv.more (I : Inv X pins σ H s) (J : Inv X pins σ G s') (new : ∀ b ∈ L.map Prod.fst, s.heap.get? b = none ∧ G b = none) (ok : ∀ p ∈ L, p.2.length ≤ sizeLine ∧ ∃ its : List Value, Vals p.2 its ∧ IsTup s'.heap p.1 its.toArray) : Inv X pins σ (tupsAt L G) s' := by
  have old : ∀ {b o}, s.heap.get? b = some o → b ∉ L.map Prod.fst := fun e z => by rw [(new _ z).1] at e; cases e
  have held : ∀ {b o}, G b = some o → b ∉ L.map Prod.fst := fun e z => by rw [(new _ z).2] at e; cases e
  refine { J with base := ⟨J.base.keep, J.base.slot, fun b o e n hx => ?_, J.base.there, fun b xs e => ?_, fun b o u e => ?_, fun b ps e => ?_⟩, free := ?_, freeC := fun y c e => ?_, pin := fun p hp => ?_, hok := fun b o e => ?_ }
  · obtain ⟨o', e'⟩ := I.base.there b o e hx
    rw [tupsAt_out (old e')]
    exact J.base.free b o e n hx
  · have q := J.base.tups b xs e
    rw [tupsAt_out (held q)]; exact q
  · have q := J.base.frzs b o u e
    rw [tupsAt_out (held q)]; exact q
  · obtain ⟨mo, q⟩ := J.base.tbls b ps e
    exact ⟨mo, by rw [tupsAt_out (held q)]; exact q⟩
  · obtain ⟨m, ⟨ob, es, ep, ho, _⟩, _⟩ := I.loc
    rw [tupsAt_out (old ho)]
    exact J.free
  · obtain ⟨v, ob, ho, _⟩ := I.cell y c e
    rw [tupsAt_out (old ho)]
    exact J.freeC y c e
  · obtain ⟨q1, q2, q3⟩ := J.pin p hp
    exact ⟨q1, by rw [tupsAt_out (old (I.pin p hp).1)]; exact q2, q3⟩
  · by_cases hb : b ∈ L.map Prod.fst
    · obtain ⟨xs, h1, h2⟩ := tupsAt_cases (H := G) hb
      rw [h2] at e
      cases e
      exact ok _ h1
    · rw [tupsAt_out hb] at e
      exact (J.hok b o e).stay (fun _ _ _ q => q) (fun c q => by rw [tupsAt_out (held q)]; exact q) fun c xs q => by rw [tupsAt_out (held q)]; exact q
end
theorem dpAll_of_get {K : PySem.W.Frag} {H : Hp} : ∀ {vs : List V} {ds : List PyData}, vs.length = ds.length → (∀ (k : Nat) v d, vs[k]? = some v → ds[k]? = some d → Dp K H v d) → DpAll K H vs ds
  | [], [], _, _ => .nil
  | [], _ :: _, h, _ => by simp at h
  | _ :: _, [], h, _ => by simp at h
  | v :: vs, d :: ds, h, q => .cons (q 0 v d rfl rfl) (dpAll_of_get (by simpa using h) fun k u e h1 h2 => q (k + 1) u e h1 h2)
/-- one new tuple, told as an object of the model and as what is tracked -/
def TupNew (p : Addr × List V) (r : Addr × Obj) : Prop := r.1 = p.1 ∧ p.2.length ≤ sizeLine ∧ ∃ us : List Value, Vals p.2 us ∧ r.2.cls = .type "tuple" ∧ ∃ n, r.2.data = .seq us.toArray n
/-- a place's item is a new tuple that is such data -/
def BringD (K : PySem.W.Frag) (f : Nat → PyData) (H1 : Hp) : Bring := fun i y news => ∃ (x : V) (L : List (Addr × List V)), RelV x y ∧ Paired TupNew L news ∧ ∀ H2 : Hp, Grow H1 H2 → (∀ p ∈ L, H2 p.1 = some (.tup p.2)) → Dp K H2 x (f i)
theorem paired_fst {L : List (Addr × List V)} {news : List (Addr × Obj)} (h : Paired TupNew L news) : L.map Prod.fst = news.map Prod.fst := by
  induction h with
  | nil => rfl
  | cons a _ ih => rw [List.map_cons, List.map_cons, ih, a.1]
theorem paired_mem {L : List (Addr × List V)} {news : List (Addr × Obj)} (h : Paired TupNew L news) : ∀ p ∈ L, ∃ r ∈ news, TupNew p r := by
  induction h with
  | nil => exact fun p z => (List.not_mem_nil z).elim
  | cons a _ ih => exact fun p z => (List.mem_cons.mp z).elim (fun e => ⟨_, List.mem_cons_self, e ▸ a⟩) fun e => let ⟨r, h1, h2⟩ := ih p e; ⟨r, List.mem_cons_of_mem _ h1, h2⟩
theorem paired_app {L L' : List (Addr × List V)} {m m' : List (Addr × Obj)} (h : Paired TupNew L m) (h' : Paired TupNew L' m') : Paired TupNew (L ++ L') (m ++ m') := by
  induction h with
  | nil => exact h'
  | cons a _ ih => exact .cons a ih
/-- all that was brought, as what is to be tracked -/
theorem bring_all {K : PySem.W.Frag} {f : Nat → PyData} {H1 : Hp} : ∀ (acc : List Value) (nss : List (List (Addr × Obj))) (ix : List Nat), acc.length = ix.length → nss.length = ix.length → (∀ (k : Nat) v news, acc[k]? = some v → nss[k]? = some news → ∃ i, ix[k]? = some i ∧ BringD K f H1 i v news) →
    ∃ (vs : List V) (L : List (Addr × List V)), Vals vs acc ∧ Paired TupNew L nss.flatten ∧ ∀ H2 : Hp, Grow H1 H2 → (∀ p ∈ L, H2 p.1 = some (.tup p.2)) → DpAll K H2 vs (ix.map f)
  | [], [], [], _, _, _ => ⟨[], [], .nil, .nil, fun _ _ _ => .nil⟩
  | v :: acc, ns :: nss, i :: ix, h1, h2, h => by
    obtain ⟨vs, L, r1, r2, r3⟩ := bring_all acc nss ix (by simpa using h1) (by simpa using h2) fun k u m e1 e2 => h (k + 1) u m e1 e2
    obtain ⟨i', e, q, L0, rq, r4, r5⟩ := h 0 v ns rfl rfl
    cases e
    refine ⟨q :: vs, L0 ++ L, .cons rq r1, ?_, fun H2 g hp => .cons (r5 H2 g fun p z => hp p (List.mem_append_left _ z)) (r3 H2 g fun p z => hp p (List.mem_append_right _ z))⟩
    rw [List.flatten_cons]
    exact paired_app r4 r2
  | [], _ :: _, [], _, h2, _ => by simp at h2
  | _ :: _, _, [], h1, _, _ => by simp at h1
  | [], _, _ :: _, h1, _, _ => by simp at h1
  | _ :: _, [], _ :: _, _, h2, _ => by simp at h2
/-! ### the rule -/
def OverOk (X : Cx) (u : Value) (s1 : Shared) (n : Nat) (It : Nat → Value → Prop) (T : Addr) : Prop :=
  ∃ (ob : Obj) (fp0 : List Addr) (St : Nat → Heap → Prop), (∀ (Q : Value → Shared → Prop) (E : Value → Shared → Prop), Q (.ref s1.heap.objs.size) { s1 with heap := s1.heap.push ob } → wpAny (model X.prog X.w) X.A (pyIter u) Q E s1) ∧
    (∀ A' : Around, A'.handled = none → Walks X.prog X.w A' s1.heap.objs.size fp0 [s1.heap.objs.size] n It St) ∧ (∀ b ∈ fp0, b ≤ s1.heap.objs.size) ∧
    (∀ h' : Heap, (∀ b o, b ≠ T → (s1.heap.push ob).get? b = some o → h'.get? b = some o) → St 0 h') ∧ ∀ i h, St i h → ∃ o, h.get? s1.heap.objs.size = some o
/-- the tests and the element, wherever the expression's own frame stands -/
def MakeOk (X : Cx) (scope : Scope) (x : Str) (ifs : List Expr) (elt : Expr) (It : Nat → Value → Prop) (n : Nat) (pz : Nat → Bool) (B : Bring) (T : Addr) (s1 : Shared) : Prop :=
  ∀ (env : Env) (A' : Around) (E' : Value → Shared → Prop) (i : Nat) (v : Value) (s2 : Shared) (m2 : Str → Option Value), It i v → env.scope = scope → env.cells = cloFrom X.env.cells scope.names [] → A'.handled = none →
    s2.heap.Ns env.locals m2 → m2 x = some v → (∀ b o, b ≠ T → s1.heap.get? b = some o → s2.heap.get? b = some o) → env.globals = mainGlobals → env.builtins = builtinsNs →
      wpAny (model X.prog X.w) A' (forIn ifs true fun c r => if r = true then do let ok ← isTrue c env (eval c env); pure (ForInStep.yield ok) else pure (ForInStep.yield r)) (fun ok s3 => ok = pz i ∧ PySem.Keeps s2 s3) E' s2 ∧
      (pz i = true → wpAny (model X.prog X.w) A' (eval elt env) (fun y s3 => (∃ news, B i y news ∧ (news.map Prod.fst).Nodup ∧ ∀ p ∈ news, s2.heap.get? p.1 = none ∧ s3.heap.get? p.1 = some p.2) ∧ PySem.Keeps s2 s3) E' s2)
def tTupO (X : Cx) (T : Addr) (scope : Scope) (x : Str) (ifs : List Expr) (elt : Expr) (te : TE) : TE := fun σ H Q => te σ H fun v H1 => ∃ (n : Nat) (It : Nat → Value → Prop) (pz : Nat → Bool) (f : Nat → PyData), n ≤ sizeLine ∧ GxR.TabG H1 T ∧
  (∀ pins s1 u, Inv X pins σ H1 s1 → RelV v u → OverOk X u s1 n It T ∧ MakeOk X scope x ifs elt It n pz (BringD X.K f H1) T s1) ∧
  ∀ (t : Addr) (vs : List V) (H2 : Hp), Grow H1 H2 → H1 t = none → H2 t = some (.tup vs) → DpAll X.K H2 vs (((List.range n).filter pz).map f) → Q (.ref t) H2
theorem tup_grow {P : Addr} {H1 : Hp} {q : Array Value} {L : List (Addr × List V)} (hP : ∃ ps, H1 P = some (.tbl ps) ∧ (TriplesOk ps.toList → TriplesOk q.toList)) (new : ∀ b ∈ L.map Prod.fst, H1 b = none) : Grow H1 (tupsAt L (upd H1 P (.tbl q))) := by
  obtain ⟨ps, hP, ht⟩ := hP
  have nP : P ∉ L.map Prod.fst := fun z => by rw [new P z] at hP; cases hP
  refine ⟨fun b o e => ?_, fun b r e => ?_⟩
  · obtain ⟨e1, e2⟩ := offT_some e
    have bP : b ≠ P := fun z => by rw [z, hP] at e1; cases e1; exact e2 _ rfl
    have nb : b ∉ L.map Prod.fst := fun z => by rw [new b z] at e1; cases e1
    exact offT_at (by rw [tupsAt_out nb, upd_ne bP]; exact e1) e2
  · by_cases bP : b = P
    · rw [bP, hP] at e
      cases e
      exact ⟨q, by rw [bP, tupsAt_out nP]; exact upd_same, ht⟩
    · have nb : b ∉ L.map Prod.fst := fun z => by rw [new b z] at e; cases e
      exact ⟨r, by rw [tupsAt_out nb, upd_ne bP]; exact e, id⟩
theorem objOk_there {P : Program} {w : World} {H : Hp} {h : Heap} {a : Addr} {o : HO} (x : ObjOk P w H h a o) : ∃ u, h.get? a = some u := by
  cases o with
  | lst xs => obtain ⟨_, _, _, _, e⟩ := x; exact ⟨_, e⟩
  | tup xs => obtain ⟨_, _, _, _, e, _⟩ := x; exact ⟨_, e⟩
  | dK kvs => obtain ⟨_, _, _, _, _, _, _, e, _⟩ := x; exact ⟨_, e⟩
  | dT kvs => obtain ⟨_, _, _, _, _, _, _, e, _⟩ := x; exact ⟨_, e⟩
  | set S n => obtain ⟨_, _, _, _, e, _⟩ := x; exact ⟨_, e⟩
  | ins C dx fs => obtain ⟨_, _, _, e, _⟩ := x; exact ⟨_, e⟩
  | own y => exact x
  | xd fs => obtain ⟨_, ⟨_, _, _, e, _⟩, _⟩ := x; exact ⟨_, e⟩
  | rng lo hi => obtain ⟨_, _, _, e⟩ := x; exact ⟨_, e⟩
  | frz ob u => exact ⟨_, x.1⟩
  | tbl ps => exact ⟨_, x⟩
  | met f y => exact ⟨_, x⟩
  | ext φ => exact x.2.1
section
variable {X : Cx}
theorem pe_tupO {c T : Addr} {elt iter : Expr} {ifs : List Expr} {x : Str} {px p pos gpos : Pos} {scope : Scope} {te : TE} {k : Nat}
    (hr : Room k X.A) (hg : Gl X "tuple") (hm : X.mg "tuple" = none) (TB : GxR.TabB X.base X.mg c T) (hcode : X.env.code = .ref c) (S : GxR.GenS X.env scope x) (hi : PE X iter te) (hs : ∀ v, genFold iter X.env v = pure v)
    (hc : X.calm = true) (he : starEach [.GeneratorExp elt [⟨.Name x px, iter, ifs, 0⟩] scope gpos] X.env = (false, eval (.GeneratorExp elt [⟨.Name x px, iter, ifs, 0⟩] scope gpos) X.env) :: starEach [] X.env := by rfl) :
    PE X (.Call (.Name "tuple" p) [.GeneratorExp elt [⟨.Name x px, iter, ifs, 0⟩] scope gpos] [] pos) (tTupO X T scope x ifs elt te) := by
  refine ⟨fun pins s σ H Q I h => ?_⟩
  refine wpAny_Call_Name_kw (ld_blt I hg hm (show bootBuiltins "tuple" = some (.type "tuple") by decide +kernel) (PyProof.Rows.callWith_type1 ?_ he (by rfl)))
  rw [he]
  refine (?_ : wpAny _ _ (spliced ((false, eval (.GeneratorExp elt [⟨.Name x px, iter, ifs, 0⟩] scope gpos) X.env) :: backTo pos (starEach [] X.env))) _ _ s)
  have calm := I.ok.hd hc
  refine Calls.spliced_cons (wpAny_GeneratorExp_make S.co (closure_ok S.free) S.cell S.dot S.kind (by have := hr.dp; omega) ?_ hs)
  refine thn (hi.run pins s σ H _ I h) fun xv s1 ⟨v, H1, I1, r1, n, It, pz, f, hz, ⟨ps, hP, ht⟩, hO, q⟩ => ?_
  obtain ⟨⟨ob, fp0, St, itr, W, fpl, st0, live⟩, MO⟩ := hO pins s1 xv I1 r1
  refine itr _ _ ?_
  have gP : s1.heap.get? T = some { cls := .none, data := .fields ps } := I1.hok T _ hP
  have Plt : T < s1.heap.objs.size := Heap.lt_size gP
  have gP2 : (s1.heap.push ob).get? T = some { cls := .none, data := .fields ps } := Heap.get?_push_of_some _ gP
  have cd : PySem.W.CodeHd (s1.heap.push ob) c T := TB.code.keeps fun b u e => Heap.get?_push_of_some _ (I1.bk b u e)
  have lim2 : (s1.heap.push ob).NoLimit := I1.nolimit.push ob
  have sz2 : (s1.heap.push ob).objs.size = s1.heap.objs.size + 1 := Heap.size_push ..
  have main : ∀ (code : Value) (h3 : Heap) (tk : Nat) (qs : Array Value), Heap.ExtBut T (s1.heap.push ob) h3 → (s1.heap.push ob).objs.size ≤ h3.objs.size → h3.get? T = some { cls := .none, data := .fields qs } → (∃ more, qs = ps ++ more) → TriplesOk qs.toList →
      wpAny (model X.prog X.w) X.A (builtinsFor X.env.globals X.env.builtins) (fun bi s4 =>
        ∀ h', h'.Ns s4.heap.objs.size (fun y => if y = ".0" then some (Value.ref s1.heap.objs.size) else none) → Heap.SameBut s4.heap.objs.size (s4.heap.push { cls := .type "frame", data := .dict #[] }) h' →
          wpAny (model X.prog X.w) X.A (spliced (backTo pos (starEach [] X.env))) (fun a_1 s' => wpAny (model X.prog X.w) X.A (call (.type "tuple") (.ref h'.objs.size :: a_1)) (EP X pins σ Q) X.xe s') X.xe
            { s4 with
              gens := s4.gens.push (.fresh (.compStart (.GeneratorExp elt [⟨.Name x px, iter, ifs, 0⟩] scope gpos) 0 (.ref s1.heap.objs.size) .none (genEnv scope (cloFrom X.env.cells scope.names []) s4.heap.objs.size code bi X.env))),
              toks := s4.toks + 1 + 1 + 1,
              heap := h'.push { cls := .type "generator", data := .fields #[.int s4.gens.size 0, .str "<genexpr>" (s4.toks + 1), .str (X.env.qual ++ "<genexpr>") (s4.toks + 1 + 1)] } }) X.xe { s1 with heap := h3, toks := tk } := by
    intro code h3 tk qs hx hsz gP3 hmore ht3
    obtain ⟨bm, bo, e1, e2, e3, e4, e5, e6, e7, e8⟩ := TB.bm
    have csP : cStatics ≠ T := fun e => by
      obtain ⟨_, hns, _⟩ := I1.nolimit
      obtain ⟨o', es, ep, ho, hd, _⟩ := hns
      rw [e, gP] at ho
      cases ho
      cases hd
    have cl : cStatics < s1.heap.objs.size := let ⟨_, hns, _⟩ := I1.nolimit; hns.lt
    have kp3 : ∀ b u, b ≠ T → s1.heap.get? b = some u → h3.get? b = some u := fun b u hb e => hx b u hb (Heap.get?_push_of_some _ e)
    refine wpAny_builtinsFor (m := X.mg) (by rw [I1.ok.glob]; exact ((I1.mod.glob.keeps I1.bk).push ob).extBut hx TB.gP) e1 e2 (kp3 _ _ e4 (I1.bk _ _ e5)) e6 e7 e8 ?_
    intro h' hn' hs'
    have hsz' : h'.objs.size = h3.objs.size + 1 := by rw [hs'.1, Heap.size_push]
    have keep' : ∀ b o, h3.get? b = some o → h'.get? b = some o := fun b o e => hs'.extBut b o (Nat.ne_of_lt (Heap.lt_size e)) (Heap.get?_push_of_some _ e)
    generalize hG : ({ cls := .type "generator", data := .fields #[.int s1.gens.size 0, .str "<genexpr>" (tk + 1), .str (X.env.qual ++ "<genexpr>") (tk + 1 + 1)] } : Obj) = go
    have keep5 : ∀ b o, h3.get? b = some o → (h'.push go).get? b = some o := fun b o e => Heap.get?_push_of_some _ (keep' b o e)
    have old5 : ∀ b o, b ≠ T → s1.heap.get? b = some o → (h'.push go).get? b = some o := fun b o hb e => keep5 b o (kp3 b o hb e)
    refine Calls.spliced_nil ?_
    have szS : s1.heap.objs.size < h3.objs.size := by omega
    have Ap : Apart X.A.in1.in1.in1.in1 h'.objs.size h3.objs.size (List.range h3.objs.size) [s1.heap.objs.size] :=
      ⟨calm, by rw [hsz']; exact Nat.succ_ne_self _, fun z => by have := List.mem_range.mp z; omega, fun b hb => by rw [List.mem_singleton.mp hb]; exact List.mem_range.mpr szS, (by have := hr.dp; show X.A.depth < recursionLimit; omega), List.mem_range.mpr (Nat.lt_trans cl szS), Nat.ne_of_lt (Nat.lt_trans cl szS), fun z => Nat.ne_of_lt cl (List.mem_singleton.mp z)⟩
    have Wf : ∀ A' : Around, A'.handled = none → Walks X.prog X.w A' s1.heap.objs.size (List.range h3.objs.size) [s1.heap.objs.size] n It St := fun A' hA => (W A' hA).mono_fp fun b hb => List.mem_range.mpr (Nat.lt_of_le_of_lt (fpl b hb) szS)
    have mk : Makes X.prog X.w (genEnv scope (cloFrom X.env.cells scope.names []) h3.objs.size code builtinsNs X.env) x ifs elt (List.range h3.objs.size) [s1.heap.objs.size] It pz (BringD X.K f H1) (h'.push go) := by
      have old : ∀ (s2 : Shared), (∀ b ∈ List.range h3.objs.size, b ∉ [s1.heap.objs.size] → ∀ o, (h'.push go).get? b = some o → s2.heap.get? b = some o) → ∀ b o, b ≠ T → s1.heap.get? b = some o → s2.heap.get? b = some o := fun s2 hk b o hb e => by
        have lt1 := Heap.lt_size e
        refine hk b (List.mem_range.mpr (Heap.lt_size (kp3 b o hb e))) (fun z => ?_) o (old5 b o hb e)
        rw [List.mem_singleton.mp z] at lt1
        exact Nat.lt_irrefl _ lt1
      refine ⟨⟨fun A' E' i v s2 m2 hA hv hns hm2 hk => (MO _ A' E' i v s2 m2 hv rfl rfl hA hns hm2 (old s2 hk) I1.ok.glob rfl).1, fun A' E' i v s2 m2 hA hv hp hns hm2 hk => ?_⟩, fun A' E' i v s2 m2 hA hv hp hns hm2 hk => (MO _ A' E' i v s2 m2 hv rfl rfl hA hns hm2 (old s2 hk) I1.ok.glob rfl).2 hp⟩
      exact wpAny_mono ((MO _ A' E' i v s2 m2 hv rfl rfl hA hns hm2 (old s2 hk) I1.ok.glob rfl).2 hp) (fun y s3 z => ⟨trivial, z.2⟩) fun _ _ z => z
    have cs5 : (h'.push go).NoLimit := (lim2.extBut hx csP).keeps keep5
    have rd : Ready X.prog X.w X.A.in1.in1.in1.in1 h'.objs.size s1.gens.size h3.objs.size (List.range h3.objs.size) [s1.heap.objs.size] pz n (BringD X.K f H1) 0 { s1 with gens := s1.gens.push (.fresh (.compStart (.GeneratorExp elt [⟨.Name x px, iter, ifs, 0⟩] scope gpos) 0 (.ref s1.heap.objs.size) .none (genEnv scope (cloFrom X.env.cells scope.names []) h3.objs.size code builtinsNs X.env))), toks := tk + 1 + 1 + 1, heap := h'.push go } := by
      refine Ready.fresh (A := X.A.in1.in1.in1.in1) (env := genEnv scope (cloFrom X.env.cells scope.names []) h3.objs.size code builtinsNs X.env) (m := fun y => if y = ".0" then some (.ref s1.heap.objs.size) else none) calm Wf (fun i h st b hb => by rw [List.mem_singleton.mp hb]; exact live i h st) S.loc (by show (scope.kind == .class || (scope.kind == .module && _)) = false; rw [S.kind]; rfl) S.co (fun z => Nat.lt_irrefl _ (List.mem_range.mp z)) mk (by subst hG; exact ⟨_, _, _, Heap.get?_push_size _ rfl, rfl, rfl, rfl⟩) (Array.getElem?_push_size ..) (st0 _ fun b o hb e => keep5 b o (hx b o hb e)) (hn'.push _) cs5
    have few : (passing pz n 0).length ≤ sizeLine := by
      unfold passing
      exact Nat.le_trans (List.length_filter_le _ _) (by rw [List.drop_zero, List.length_range]; exact hz)
    have sz5 : (h'.push go).objs.size = h3.objs.size + 2 := by rw [Heap.size_push, hsz']
    refine bring_tuple Ap rd few (by show h'.objs.size < (h'.push go).objs.size; omega) (by show h3.objs.size < (h'.push go).objs.size; omega) (fun b hb => Nat.lt_trans (List.mem_range.mp hb) (by show h3.objs.size < (h'.push go).objs.size; omega)) fun s' acc nss mv F => ?_
    obtain ⟨more, em⟩ := hmore
    have nw : ∀ b u, s1.heap.get? b = some u → b ∉ h3.objs.size :: [s1.heap.objs.size] := fun b u e hb => by
      have hl := Heap.lt_size e
      rcases List.mem_cons.mp hb with z | z
      · rw [z] at hl
        exact Nat.lt_asymm szS hl
      · rw [List.mem_singleton.mp z] at hl
        exact Nat.lt_irrefl _ hl
    have kept : ∀ b u, b ≠ T → s1.heap.get? b = some u → s'.heap.get? b = some u := fun b u hb e => mv.heap b u (nw b u e) (old5 b u hb e)
    have J := GxR.inv_tab (more := more) (h' := s'.heap) (g' := s'.gens) (d' := s'.drawn) (t' := s'.toks) I1 hP kept (by rw [← em]; exact mv.heap T _ (nw T _ gP) (keep5 T _ gP3)) (AllBare.movedS (I1.bare.push rfl) mv)
    rw [GxR.sh_eta s1 s' mv.os] at J
    have len0 : passing pz n 0 = (List.range n).filter pz := by unfold passing; rw [List.drop_zero]
    obtain ⟨vs, L, v1, v2, v3⟩ := bring_all (K := X.K) (f := f) (H1 := H1) acc.toList nss (passing pz n 0) (by rw [Array.length_toList, F.size]) F.len fun k v news h1 h2 => F.each k v news (by simpa using h1) h2
    have fst := paired_fst v2
    have none1 : ∀ b ∈ L.map Prod.fst, s1.heap.get? b = none := fun b hb => by
      rw [fst] at hb
      obtain ⟨p, hp, rfl⟩ := List.mem_map.mp hb
      cases e : s1.heap.get? p.1 with
      | none => rfl
      | some u =>
        have z := (F.there p hp).2.1
        by_cases hT : p.1 = T
        · rw [hT] at z
          exact absurd ((keep5 T _ gP3).symm.trans z) (by simp)
        · exact absurd ((old5 _ _ hT e).symm.trans z) (by simp)
    have free1 : ∀ b ∈ L.map Prod.fst, H1 b = none := fun b hb => by
      cases e : H1 b with
      | none => rfl
      | some o =>
        obtain ⟨u, hu⟩ := objOk_there (I1.hok b o e)
        exact absurd (hu.symm.trans (none1 b hb)) (by simp)
    have neT : ∀ b ∈ L.map Prod.fst, b ≠ T := fun b hb z => by
      have y := none1 b hb
      rw [z, gP] at y
      cases y
    have J2 := Inv.more I1 J (fun b hb => ⟨none1 b hb, by rw [upd_ne (neT b hb)]; exact free1 b hb⟩) fun p hp => by
      obtain ⟨r, hr', t1, t2, us, t3, t4, m, t5⟩ := paired_mem v2 p hp
      refine ⟨t2, us, t3, r.2, ?_, t4, m, t5⟩
      rw [← t1]
      exact (F.there r hr').2.2
    have gr : Grow H1 (tupsAt L (upd H1 T (.tbl (ps ++ more)))) := tup_grow ⟨ps, hP, fun _ => by rw [← em]; exact ht3⟩ free1
    have fresh2 := J2.hok.fresh (Nat.le_refl s'.heap.objs.size)
    have vl : vs.length = acc.size := by rw [v1.length, Array.length_toList]
    have g2 : Grow H1 (upd (tupsAt L (upd H1 T (.tbl (ps ++ more)))) s'.heap.objs.size (.tup vs)) := gr.trans (Grow.new fresh2)
    refine ⟨.ref _, _, J2.laid (t' := s'.toks) (o := .tup vs) (fun b o' z => Heap.get?_push_of_some _ z) (Nat.le_refl _) ⟨by rw [vl, F.size]; exact few, acc.toList, v1, _, Heap.get?_push_size _ rfl, rfl, _, rfl⟩, rfl, q _ vs _ g2 ?_ upd_same ?_⟩
    · cases e : H1 s'.heap.objs.size with
      | none => rfl
      | some o =>
        cases o with
        | tbl z =>
          obtain ⟨z', e', _⟩ := gr.t _ _ e
          exact absurd (e'.symm.trans fresh2) (by simp)
        | _ => exact absurd ((gr.at e).symm.trans fresh2) (by simp)
    · rw [← len0]
      refine v3 _ g2 fun p hp => ?_
      have hin : tupsAt L (upd H1 T (.tbl (ps ++ more))) p.1 = some (.tup p.2) := tupsAt_in (by rw [fst]; exact F.nd) p hp
      rw [upd_ne (ne_of_none hin fresh2)]
      exact hin
  refine ⟨lim2, ?_⟩
  cases hf : codeAmong gpos ps.toList with
  | none =>
    refine wpAny_genexprCodeX hcode (cd.code gP2 ht) (cd.tab gP2) hf fun c' h' tk hx hge hlt hco' _ htab' _ => ?_
    obtain ⟨_, _, _, _, _, _, _, _, _, _, _, _, _, _, _, _, _, _, _, htr, _⟩ := hco'
    exact main _ h' tk _ hx (Nat.le_trans hge (Nat.le_of_lt hlt)) htab'.2 ⟨_, rfl⟩ htr
  | some cv =>
    refine wpAny_genexprCode_hit hcode (cd.code gP2 ht) hf ?_
    exact main cv (s1.heap.push ob) s1.toks ps (Heap.ExtBut.refl _ _) (Nat.le_refl _) gP2 ⟨#[], by simp⟩ ht
end
/-! ### elements that make a pair -/
section
variable {P : Program} {w : World} {A : Around} {env : Env} {s : Shared} {a b : Expr} {pos : Pos} {k : Nat}
theorem gm_two {R1 R2 : Value → Prop} (ha : GV P w A env s a R1) (hb : GV P w A env s b R2) (st : starEach [a, b] env = (false, eval a env) :: (false, eval b env) :: starEach [] env := by rfl) (E : Value → Shared → Prop) :
    wpAny (model P w) A (eval (.Tuple [a, b] k pos) env) (fun y s3 => (∃ q u v, y = .ref q ∧ R1 u ∧ R2 v ∧ s.heap.get? q = none ∧ s3.heap.get? q = some { cls := .type "tuple", data := .seq [u, v].toArray }) ∧ PySem.Keeps s s3) E s := by
  refine wpAny_Tuple_spliced ?_
  rw [st]
  refine (?_ : wpAny _ _ (spliced ((false, eval a env) :: backTo pos ((false, eval b env) :: starEach [] env))) _ _ s)
  refine Calls.spliced_cons (wpAny_mono (ha E s (GxR.keeps_refl _)) (fun u s1 ⟨r1, k1⟩ => ?_) fun _ _ z => z)
  refine (?_ : wpAny _ _ (spliced ((false, eval b env) :: backTo pos (starEach [] env))) _ _ s1)
  refine Calls.spliced_cons (wpAny_mono (hb E s1 k1) (fun v s2 ⟨r2, k2⟩ => ?_) fun _ _ z => z)
  refine Calls.spliced_nil ⟨by show 2 ≤ sizeLine; decide, ⟨s2.heap.objs.size, u, v, rfl, r1, r2, ?_, Heap.get?_push_size _ rfl⟩, ?_⟩
  · cases e : s.heap.get? s2.heap.objs.size with
    | none => rfl
    | some o => exact absurd (Heap.lt_size (keepsH k2 _ _ e)) (Nat.lt_irrefl _)
  · obtain ⟨h, t, rfl, kk⟩ := k2
    exact ⟨_, t, rfl, fun c o e => Heap.get?_push_of_some _ (kk c o e)⟩
end
/-- over a tuple of numbers -/
theorem over_tup {X : Cx} {s1 : Shared} {a T : Addr} {its : List Value} {ps : Array Value} (calm : X.A.handled = none) (ht : IsTup s1.heap a its.toArray) (hT : s1.heap.get? T = some { cls := .none, data := .fields ps }) : OverOk X (.ref a) s1 its.length (fun i v => its[i]? = some v) T := by
  have al : a < s1.heap.objs.size := ht.lt
  have aT : a ≠ T := fun z => by
    obtain ⟨o, ho, _, n, hd⟩ := ht
    rw [z, hT] at ho
    cases ho
    cases hd
  have tT : s1.heap.objs.size ≠ T := fun z => Nat.lt_irrefl _ (z ▸ Heap.lt_size hT)
  have sz : its.toArray.size = its.length := List.size_toArray ..
  refine ⟨{ cls := .type "tuple_iterator", data := .fields #[.ref a, .int 0 0] }, [s1.heap.objs.size, a], fun i h => h.IsTupleIter s1.heap.objs.size a i ∧ h.IsTuple a its.toArray, fun Q E q => wpAny_pyIter_tuple (show s1.heap.IsTuple a its.toArray from ht) q, fun A' hA => ?_, fun b hb => ?_, fun h' k => ⟨?_, ?_⟩, fun i h st => ?_⟩
  · have W := Walks.tuple (prog := X.prog) (w := X.w) hA s1.heap.objs.size a (Nat.ne_of_lt al) its.toArray
    rw [sz] at W
    refine { W with item := fun i s Q E hi st hQ => W.item i s Q E hi st fun v h' tk hv => hQ v h' tk (by simpa using hv) }
  · rcases List.mem_cons.mp hb with z | z
    · exact Nat.le_of_eq z
    · rw [List.mem_singleton.mp z]; exact Nat.le_of_lt al
  · exact ⟨_, k _ _ tT (Heap.get?_push_size _ rfl), rfl, rfl⟩
  · obtain ⟨o, ho, r⟩ := ht
    exact ⟨o, k _ _ aT (Heap.get?_push_of_some _ ho), r⟩
  · obtain ⟨⟨o, ho, _⟩, _⟩ := st
    exact ⟨o, ho⟩
/-! ### enumerate over a tuple, from a number on -/
def IteT (K : PySem.W.Frag) (a : Addr) (c : Int) : It :=
  ⟨fun i H => ∃ (xs : List V) (x : V), SqT K H a xs ∧ xs[i]? = some x, fun i H v H' => ∃ T x, v = .ref T ∧ H T = none ∧ H' = upd H T (.tup [.int (c + (i : Int)), x]) ∧ ∀ xs, SqT K H a xs → xs[i]? = some x, fun i H => ∃ xs : List V, SqT K H a xs ∧ xs.length ≤ i⟩
theorem turn_enumT {P : Program} {w : World} {K : PySem.W.Frag} {elts : List Expr} {kk : Nat} {tpos : Pos} (a e it : Addr) (c : Int) :
    Turn P w K (.Tuple elts kk tpos) (IteT K a c) [e, it] e (fun i h => (∃ old, IsEnum h e it (c + (i : Int)) old) ∧ h.IsTupleIter it a i ∧ e ≠ it) where
  mem := by simp
  obj := fun i h st b hb => by
    obtain ⟨⟨old, he⟩, ⟨o, ho, hc, hd⟩, _⟩ := st
    rcases (by simpa using hb : b = e ∨ b = it) with z | z
    · rw [z]; exact ⟨_, he, fun v q => nomatch q⟩
    · rw [z]; exact ⟨o, ho, fun v q => by rw [hd] at q; cases q⟩
  keep := fun i h h' st k => let ⟨⟨old, he⟩, hi, ne⟩ := st; ⟨⟨old, k e (by simp) _ he⟩, hi.at fun o q => k it (by simp) o q, ne⟩
  item := by
    intro X hP hw hK hc i pins s σ H E I hf st hg
    subst hP hw hK
    obtain ⟨⟨old, he⟩, hit, ne⟩ := st
    obtain ⟨xs, x, hq, hx⟩ := hg
    obtain ⟨its, rv, p, hz⟩ := I.tuple hq
    obtain ⟨u, hu, ru⟩ := rv.get hx
    have el : e < s.heap.objs.size := Heap.lt_size he
    have il : it < s.heap.objs.size := by obtain ⟨_, q, _⟩ := hit; exact Heap.lt_size q
    have ai : a ≠ it := fun z => by
      obtain ⟨o1, q1, c1, _⟩ := hit
      obtain ⟨o2, q2, c2, _⟩ := p
      rw [z, q1] at q2
      cases q2
      rw [c1] at c2
      exact absurd c2 (by decide)
    have ae : a ≠ e := fun z => by
      obtain ⟨o2, q2, c2, _⟩ := p
      have q1 : s.heap.get? e = _ := he
      rw [z, q1] at q2
      cases q2
      exact absurd c2 (by show ¬ Value.type "enumerate" = Value.type "tuple"; decide)
    have D := Draws.tuple (prog := X.prog) (w := X.w) (A := X.A.in1) (I.ok.hd hc) it a ai its.toArray
    have isT : s.heap.IsTuple a its.toArray := p
    have lt : i < its.toArray.size := by rw [List.size_toArray]; exact (List.getElem?_eq_some_iff.mp hu).1
    refine wpAny_pyNext_enum_itemC D he ⟨hit, isT⟩ lt ne (by simp [ne, Ne.symm ae]) fun y h' tk hy ho st' hT hsz hk => ?_
    have ey : y = u := by
      have hy' : its.toArray[i]? = some y := hy
      rw [List.getElem?_toArray, hu] at hy'
      exact (Option.some.inj hy').symm
    subst ey
    refine ⟨_, rfl, wpAny_letOwnedTupleGo_enum (s := { s with heap := h', toks := tk + 1 }) ho fun h2 he2 sb => ?_⟩
    have hT2 : h2.get? s.heap.objs.size = some { cls := .type "tuple", data := .seq #[.int (c + (i : Int)) tk, y] } := (sb.2 _ (Nat.ne_of_gt el)).trans hT
    have new : ObjOk X.prog X.w (upd H s.heap.objs.size (.tup [.int (c + (i : Int)), x])) h2 s.heap.objs.size (.tup [.int (c + (i : Int)), x]) := ⟨by show 2 ≤ sizeLine; decide, [.int (c + (i : Int)) tk, y], .cons ⟨_, rfl⟩ (.cons ru .nil), ⟨_, hT2, rfl, _, rfl⟩⟩
    have I1 : Inv X pins σ (upd H s.heap.objs.size (.tup [.int (c + (i : Int)), x])) { s with heap := h2, toks := tk + 1 } :=
      I.turnedNew (ch := [e, it]) (fun b ob hb q => (sb.2 b (fun z => hb (by simp [z]))).trans (hk b ob (fun z => hb (by simp [z])) (fun z => hb (by simp [z])) q)) hf (Nat.le_refl _) new
    refine ⟨.ref s.heap.objs.size, _, I1, rfl, ⟨_, x, rfl, I.hok.fresh (Nat.le_refl _), rfl, fun ys hy2 => ?_⟩, ⟨⟨y, ?_⟩, st'.1.at fun o q => (sb.2 it (Ne.symm ne)).trans q, ne⟩, fun b hb => ?_⟩
    · rw [I.tuple_inj hy2 hq]; exact hx
    · rw [show c + ((i + 1 : Nat) : Int) = c + (i : Int) + 1 by omega]; exact he2
    · have hb' : b < s.heap.objs.size := by
        rcases (by simpa using hb : b = e ∨ b = it) with z | z
        · rw [z]; exact el
        · rw [z]; exact il
      rw [upd_ne (Nat.ne_of_lt hb')]
      exact (hf b hb).1
  done := by
    intro X hP hw hK hc i pins s σ H E I hf st hg
    subst hP hw hK
    obtain ⟨⟨old, he⟩, hit, ne⟩ := st
    obtain ⟨xs, hq, hx⟩ := hg
    obtain ⟨its, rv, p, hz⟩ := I.tuple hq
    obtain ⟨f0, f1, f2, f3, f4, f5⟩ := hf it (by simp)
    have hl := rv.length
    have isT : s.heap.IsTuple a its.toArray := p
    have D0 : Draws X.prog X.w X.A.in1 it [it, a] 0 (fun _ _ => False) (fun _ h => h.IsTupleIter it a i ∧ h.IsTuple a its.toArray) :=
      ⟨fun _ _ st => let ⟨o, ho, _⟩ := st.1; ⟨o, ho⟩, fun _ _ _ st k => ⟨st.1.at fun o q => k it (by simp) o q, st.2.at fun o q => k a (by simp) o q⟩, fun j s Q E lt => absurd lt (Nat.not_lt_zero j), fun s Q E st q => wpAny_nextOf_tuple_end (I.ok.hd hc) st.1 st.2 (by rw [List.getElem?_toArray]; exact List.getElem?_eq_none (by omega)) q⟩
    exact wpAny_pyNext_enum_endD D0 he ⟨hit, isT⟩ fun h' eb => ⟨rfl, I.turned (t' := s.toks) (fun b o hb q => eb b o hb q) f0 f1 f3 f4 f5⟩
  self := fun A i s Q E st h => let ⟨⟨_, he⟩, _⟩ := st; wpAny_pyIter_enum he h
/-- enumerate(v): its two new cells -/
theorem meets_enum1 {v : Value} {o : Obj} {Hh : Heap → Prop} (B : Begins v o Hh) :
    Meets (Builtin.«enumerate.__new__» ⟨[.type "enumerate", v], []⟩) (fun _ R s => Hh s.heap ∧ R (.ok (.ret (.ref (s.heap.push o).objs.size))) { s with heap := (s.heap.push o).push { cls := .type "enumerate", data := .fields #[.none, .bool false, .ref s.heap.objs.size, rawInt 0, .none, .none] } }) :=
  .of_wp fun prog w A R s h => by
    obtain ⟨hp, g, d, tk, os⟩ := s
    obtain ⟨h1, h⟩ := h
    have sub := sub_enumerate
    have q1 : ∀ {A' : Around} {E : Value → Shared → Prop} {Q : Value → Shared → Prop}, Q (.ref hp.objs.size) ⟨hp.push o, g, d, tk, os⟩ → wpAny (model prog w) A' (pyIter v) Q E ⟨hp, g, d, tk, os⟩ := fun q => B.iter prog w _ _ ⟨hp, g, d, tk, os⟩ _ h1 q
    wp_walk using q1
    refine wpAny_stack_any fun st => wpAny_pure ?_
    split
    · rename_i c _ _ _ _ _
      cases (c == Value.type "enumerate") <;> (wp_walk using q1; exact ⟨_, rfl, h⟩)
    · wp_walk using q1
      exact ⟨_, rfl, h⟩
theorem enum_begins1 {prog : Program} {w : World} {A : Around} {E : Value → Shared → Prop} {s : Shared} {v : Value} {o : Obj} {Hh : Heap → Prop} {Q : Value → Shared → Prop} (B : Begins v o Hh) (h1 : Hh s.heap)
    (h : ∀ h', IsEnum h' (s.heap.objs.size + 1) s.heap.objs.size 0 .none → h'.get? s.heap.objs.size = some o → h'.objs.size = s.heap.objs.size + 2 → (∀ b o, s.heap.get? b = some o → h'.get? b = some o) → Q (.ref (s.heap.objs.size + 1)) { s with heap := h' }) :
    wpAny (model prog w) A (call (.type "enumerate") [v]) Q E s := by
  refine callType_new PySem.F.called_enumerate (by decide) (PySem.F.typeCall_enumerate_1 _) (PySem.F.newCall_enumerate_1 _) (fun obj => PySem.F.args_object_init_2 obj _) PySem.F.entry_enumerate_new (meets_enum1 B) ⟨h1, ?_⟩
  have hz : (s.heap.push o).objs.size = s.heap.objs.size + 1 := Heap.size_push ..
  refine (?_ : _ ∧ _)
  rw [hz]
  have he : IsEnum ((s.heap.push o).push { cls := .type "enumerate", data := .fields #[.none, .bool false, .ref s.heap.objs.size, rawInt 0, .none, .none] }) (s.heap.objs.size + 1) s.heap.objs.size 0 .none := hz ▸ Heap.get?_push_size (s.heap.push o) (o := { cls := .type "enumerate", data := .fields #[.none, .bool false, .ref s.heap.objs.size, rawInt 0, .none, .none] }) rfl
  exact ⟨⟨_, he, rfl⟩, h _ he (Heap.get?_push_of_some _ (Heap.get?_push_size _ B.free)) (by rw [Heap.size_push, hz]) fun b o x => Heap.get?_push_of_some _ (Heap.get?_push_of_some _ x)⟩
section
variable {X : Cx}
theorem enum_over {pins : List (Addr × Obj)} {σ : L2.St} {H1 : Hp} {s1 : Shared} {elts : List Expr} {kk : Nat} {tpos : Pos} {R : It → Hp → Prop} {a : Addr} {xs : List V} {c : Int} (I1 : Inv X pins σ H1 s1) (hq : SqT X.K H1 a xs) (q : R (IteT X.K a c) H1) {h' : Heap}
    (he : IsEnum h' (s1.heap.objs.size + 1) s1.heap.objs.size c .none) (hi : h'.get? s1.heap.objs.size = some { cls := .type "tuple_iterator", data := .fields #[.ref a, .int 0 0] }) (hk : ∀ b o, s1.heap.get? b = some o → h'.get? b = some o) :
    wpAny (model X.prog X.w) X.A (pyIter (.ref (s1.heap.objs.size + 1))) (PIE X pins σ (.Tuple elts kk tpos) R) X.xe { s1 with heap := h' } := by
  refine wpAny_pyIter_enum he ?_
  have I2 : Inv X pins σ H1 { s1 with heap := h' } := I1.kept (t' := s1.toks) hk
  refine ⟨s1.heap.objs.size + 1, [s1.heap.objs.size + 1, s1.heap.objs.size], _, _, H1, rfl, I2, turn_enumT a (s1.heap.objs.size + 1) s1.heap.objs.size c, ⟨⟨.none, ?_⟩, ⟨_, hi, rfl, rfl⟩, Nat.succ_ne_self _⟩, fun b hb => ?_, q⟩
  · rw [show c + ((0 : Nat) : Int) = c by omega]; exact he
  · have hle : s1.heap.objs.size ≤ b := by
      rcases (by simpa using hb : b = s1.heap.objs.size + 1 ∨ b = s1.heap.objs.size) with z | z
      · rw [z]; exact Nat.le_add_right _ _
      · rw [z]; exact Nat.le_refl _
    exact I1.fpOk hle (I1.hok.fresh hle)
def iEnumT (K : PySem.W.Frag) (ta : TA) : TI := fun σ H R => ta σ H fun vs H1 => ∃ a xs, vs = [.ref a] ∧ SqT K H1 a xs ∧ R (IteT K a 0) H1
theorem pi_enumT {e : Expr} {ta : TA} {p pos tpos : Pos} {elts : List Expr} {kk : Nat} (hg : Gl X "enumerate") (hm : X.mg "enumerate" = none) (ha : PA X [e] ta) (hs : starEach [e] X.env = [(false, eval e X.env)] := by rfl) :
    PI X (.Tuple elts kk tpos) (.Call (.Name "enumerate" p) [e] [] pos) (iEnumT X.K ta) := by
  refine ⟨fun pins s σ H R I h => Call_ (ld_blt I hg hm boot_enumerate (PyProof.Rows.callWith_type1 (thn (ha.run pos pins s σ H _ I h) fun us s1 ⟨vs, H1, I1, r1, q1⟩ => ?_) hs rfl))⟩
  obtain ⟨a, xs, rfl, hq, q⟩ := q1
  rw [Vals.ref1 r1]
  obtain ⟨its, rv, p', hz⟩ := I1.tuple hq
  exact enum_begins1 (begins_tuple a its.toArray) p' fun h' he hi hsz hk => enum_over I1 hq q he hi hk
def iEnumTS (K : PySem.W.Frag) (ta tk : TA) : TI := fun σ H R => ta σ H fun vs H1 => tk σ H1 fun zs H2 => ∃ a xs c, vs = [.ref a] ∧ zs = [.int c] ∧ 0 ≤ c ∧ c < 2 ^ 62 ∧ SqT K H2 a xs ∧ R (IteT K a c) H2
theorem callWith_typeK {M : Model} {A : Around} {E : Value → Shared → Prop} {s : Shared} {pos : Pos} {T : String} {first : List Value} {args : List (Bool × Sem Value)} {kw : List (Option Str × Sem Value)} {Q : Value → Shared → Prop} (pl : args.any (·.1) = false) (kn : kw.any (·.1.isNone) = false)
    (h : wpAny M A (evalArgs (.type T) true args kw) (fun a s1 => wpAny M A (call (.type T) (first ++ a.pos) a.kw) Q E s1) E s) : wpAny M A (callWith pos (.type T) first args kw) Q E s := by
  unfold callWith
  refine wpAny_bind (wpAny_holding (wpAny_mono h (fun a s1 h1 => wpAny_bind (wpAny_standAt ?_)) fun _ _ z => z))
  simp only [pl, kn, Bool.or_false]
  exact wpAny_bind (wpAny_pure (wpAny_bind (wpAny_mono h1 (fun r s2 hr => wpAny_bind (wpAny_holding (wpAny_point (wpAny_pure hr)))) fun _ _ z => z)))
theorem pi_enumTS {e e2 : Expr} {ta tk : TA} {p pos tpos kpos : Pos} {elts : List Expr} {kk : Nat} (hg : Gl X "enumerate") (hm : X.mg "enumerate" = none) (ha : PA X [e] ta) (hk : PK X [⟨some "start", e2, kpos⟩] tk) (hs : starEach [e] X.env = [(false, eval e X.env)] := by rfl) :
    PI X (.Tuple elts kk tpos) (.Call (.Name "enumerate" p) [e] [⟨some "start", e2, kpos⟩] pos) (iEnumTS X.K ta tk) := by
  refine ⟨fun pins s σ H R I h => wpAny_Call_Name_kw (ld_blt I hg hm boot_enumerate (callWith_typeK ?_ (by rfl) ?_))⟩
  · rw [hs]; rfl
  rw [hs]
  refine PyProof.Rows.evalArgs_kwB (by rfl) ?_
  have run := ha.run pos pins s σ H _ I h
  rw [hs] at run
  refine thn run fun us s1 ⟨vs, H1, I1, r1, q1⟩ => thn (hk.run pos pins s1 σ H1 _ I1 q1) fun ws s2 ⟨zs, H2, I2, r2, q2⟩ => ?_
  obtain ⟨a, xs, c, rfl, rfl, c0, c1, hq, q⟩ := q2
  rw [Vals.ref1 r1]
  obtain ⟨u, rfl, t, rfl⟩ := vals1 r2
  obtain ⟨its, rv, p', hz⟩ := I2.tuple hq
  exact enum_begins_start (begins_tuple a its.toArray) p' (by omega) (by omega) fun h' he hi hsz hk' => enum_over I2 hq q he hi hk'
end
theorem walk_enumT {K : PySem.W.Frag} {a : Addr} {xs : List V} {c : Int} : Walk (IteT K a c) xs.length (fun H => SqT K H a xs) (YPair (fun i => some (.int (c + (i : Int)))) (fun i => xs[i]?)) := by
  refine ⟨fun i _ hi q => ⟨xs, xs[i], q, List.getElem?_eq_getElem hi⟩, fun _ q => ⟨xs, q, Nat.le_refl _⟩, fun i H v H' _ q y => ?_⟩
  obtain ⟨T, x, h1, h2, h3, h4⟩ := y
  exact ⟨T, .int (c + (i : Int)), x, h1, h2, h3, rfl, h4 xs q⟩
/-! ### enumerate over a list, from a number on -/
def IteL (K : PySem.W.Frag) (a : Addr) (c : Int) : It :=
  ⟨fun i H => ∃ (xs : List V) (x : V), SqL K H a xs ∧ xs[i]? = some x, fun i H v H' => ∃ T x, v = .ref T ∧ H T = none ∧ H' = upd H T (.tup [.int (c + (i : Int)), x]) ∧ ∀ xs, SqL K H a xs → xs[i]? = some x, fun i H => ∃ xs : List V, SqL K H a xs ∧ xs.length ≤ i⟩
theorem turn_enumL {P : Program} {w : World} {K : PySem.W.Frag} {elts : List Expr} {kk : Nat} {tpos : Pos} (a e it : Addr) (c : Int) :
    Turn P w K (.Tuple elts kk tpos) (IteL K a c) [e, it] e (fun i h => (∃ old, IsEnum h e it (c + (i : Int)) old) ∧ h.IsListIter it a i ∧ e ≠ it) where
  mem := by simp
  obj := fun i h st b hb => by
    obtain ⟨⟨old, he⟩, ⟨o, ho, hc, hd⟩, _⟩ := st
    rcases (by simpa using hb : b = e ∨ b = it) with z | z
    · rw [z]; exact ⟨_, he, fun v q => nomatch q⟩
    · rw [z]; exact ⟨o, ho, fun v q => by rw [hd] at q; cases q⟩
  keep := fun i h h' st k => let ⟨⟨old, he⟩, hi, ne⟩ := st; ⟨⟨old, k e (by simp) _ he⟩, hi.at fun o q => k it (by simp) o q, ne⟩
  item := by
    intro X hP hw hK hc i pins s σ H E I hf st hg
    subst hP hw hK
    obtain ⟨⟨old, he⟩, hit, ne⟩ := st
    obtain ⟨xs, x, hq, hx⟩ := hg
    obtain ⟨its, rv, pl, hz⟩ := I.list hq
    have p := pl.isList
    obtain ⟨u, hu, ru⟩ := rv.get hx
    have el : e < s.heap.objs.size := Heap.lt_size he
    have il : it < s.heap.objs.size := by obtain ⟨_, q, _⟩ := hit; exact Heap.lt_size q
    have ai : a ≠ it := fun z => by
      obtain ⟨o1, q1, c1, _⟩ := hit
      obtain ⟨o2, q2, c2, _⟩ := p
      rw [z, q1] at q2
      cases q2
      rw [c1] at c2
      exact absurd c2 (by decide)
    have ae : a ≠ e := fun z => by
      obtain ⟨o2, q2, c2, _⟩ := p
      have q1 : s.heap.get? e = _ := he
      rw [z, q1] at q2
      cases q2
      exact absurd c2 (by show ¬ Value.type "enumerate" = Value.type "list"; decide)
    have D := Draws.list (prog := X.prog) (w := X.w) (A := X.A.in1) (I.ok.hd hc) it a ai its.toArray
    have isT : s.heap.IsList a its.toArray := p
    have lt : i < its.toArray.size := by rw [List.size_toArray]; exact (List.getElem?_eq_some_iff.mp hu).1
    refine wpAny_pyNext_enum_itemC D he ⟨hit, isT⟩ lt ne (by simp [ne, Ne.symm ae]) fun y h' tk hy ho st' hT hsz hk => ?_
    have ey : y = u := by
      have hy' : its.toArray[i]? = some y := hy
      rw [List.getElem?_toArray, hu] at hy'
      exact (Option.some.inj hy').symm
    subst ey
    refine ⟨_, rfl, wpAny_letOwnedTupleGo_enum (s := { s with heap := h', toks := tk + 1 }) ho fun h2 he2 sb => ?_⟩
    have hT2 : h2.get? s.heap.objs.size = some { cls := .type "tuple", data := .seq #[.int (c + (i : Int)) tk, y] } := (sb.2 _ (Nat.ne_of_gt el)).trans hT
    have new : ObjOk X.prog X.w (upd H s.heap.objs.size (.tup [.int (c + (i : Int)), x])) h2 s.heap.objs.size (.tup [.int (c + (i : Int)), x]) := ⟨by show 2 ≤ sizeLine; decide, [.int (c + (i : Int)) tk, y], .cons ⟨_, rfl⟩ (.cons ru .nil), ⟨_, hT2, rfl, _, rfl⟩⟩
    have I1 : Inv X pins σ (upd H s.heap.objs.size (.tup [.int (c + (i : Int)), x])) { s with heap := h2, toks := tk + 1 } :=
      I.turnedNew (ch := [e, it]) (fun b ob hb q => (sb.2 b (fun z => hb (by simp [z]))).trans (hk b ob (fun z => hb (by simp [z])) (fun z => hb (by simp [z])) q)) hf (Nat.le_refl _) new
    refine ⟨.ref s.heap.objs.size, _, I1, rfl, ⟨_, x, rfl, I.hok.fresh (Nat.le_refl _), rfl, fun ys hy2 => ?_⟩, ⟨⟨y, ?_⟩, st'.1.at fun o q => (sb.2 it (Ne.symm ne)).trans q, ne⟩, fun b hb => ?_⟩
    · rw [I.list_inj hy2 hq]; exact hx
    · rw [show c + ((i + 1 : Nat) : Int) = c + (i : Int) + 1 by omega]; exact he2
    · have hb' : b < s.heap.objs.size := by
        rcases (by simpa using hb : b = e ∨ b = it) with z | z
        · rw [z]; exact el
        · rw [z]; exact il
      rw [upd_ne (Nat.ne_of_lt hb')]
      exact (hf b hb).1
  done := by
    intro X hP hw hK hc i pins s σ H E I hf st hg
    subst hP hw hK
    obtain ⟨⟨old, he⟩, hit, ne⟩ := st
    obtain ⟨xs, hq, hx⟩ := hg
    obtain ⟨its, rv, pl, hz⟩ := I.list hq
    have p := pl.isList
    obtain ⟨f0, f1, f2, f3, f4, f5⟩ := hf it (by simp)
    have hl := rv.length
    have isT : s.heap.IsList a its.toArray := p
    have D0 : Draws X.prog X.w X.A.in1 it [it, a] 0 (fun _ _ => False) (fun _ h => h.IsListIter it a i ∧ h.IsList a its.toArray) :=
      ⟨fun _ _ st => let ⟨o, ho, _⟩ := st.1; ⟨o, ho⟩, fun _ _ _ st k => ⟨st.1.at fun o q => k it (by simp) o q, st.2.at fun o q => k a (by simp) o q⟩, fun j s Q E lt => absurd lt (Nat.not_lt_zero j), fun s Q E st q => wpAny_nextOf_list_end (I.ok.hd hc) st.1 st.2 (by rw [List.getElem?_toArray]; exact List.getElem?_eq_none (by omega)) q⟩
    exact wpAny_pyNext_enum_endD D0 he ⟨hit, isT⟩ fun h' eb => ⟨rfl, I.turned (t' := s.toks) (fun b o hb q => eb b o hb q) f0 f1 f3 f4 f5⟩
  self := fun A i s Q E st h => let ⟨⟨_, he⟩, _⟩ := st; wpAny_pyIter_enum he h
/-- enumerate(v): its two new cells -/
theorem meets_enum1L {v : Value} {o : Obj} {Hh : Heap → Prop} (B : Begins v o Hh) :
    Meets (Builtin.«enumerate.__new__» ⟨[.type "enumerate", v], []⟩) (fun _ R s => Hh s.heap ∧ R (.ok (.ret (.ref (s.heap.push o).objs.size))) { s with heap := (s.heap.push o).push { cls := .type "enumerate", data := .fields #[.none, .bool false, .ref s.heap.objs.size, rawInt 0, .none, .none] } }) :=
  .of_wp fun prog w A R s h => by
    obtain ⟨hp, g, d, tk, os⟩ := s
    obtain ⟨h1, h⟩ := h
    have sub := sub_enumerate
    have q1 : ∀ {A' : Around} {E : Value → Shared → Prop} {Q : Value → Shared → Prop}, Q (.ref hp.objs.size) ⟨hp.push o, g, d, tk, os⟩ → wpAny (model prog w) A' (pyIter v) Q E ⟨hp, g, d, tk, os⟩ := fun q => B.iter prog w _ _ ⟨hp, g, d, tk, os⟩ _ h1 q
    wp_walk using q1
    refine wpAny_stack_any fun st => wpAny_pure ?_
    split
    · rename_i c _ _ _ _ _
      cases (c == Value.type "enumerate") <;> (wp_walk using q1; exact ⟨_, rfl, h⟩)
    · wp_walk using q1
      exact ⟨_, rfl, h⟩
theorem enum_begins1L {prog : Program} {w : World} {A : Around} {E : Value → Shared → Prop} {s : Shared} {v : Value} {o : Obj} {Hh : Heap → Prop} {Q : Value → Shared → Prop} (B : Begins v o Hh) (h1 : Hh s.heap)
    (h : ∀ h', IsEnum h' (s.heap.objs.size + 1) s.heap.objs.size 0 .none → h'.get? s.heap.objs.size = some o → h'.objs.size = s.heap.objs.size + 2 → (∀ b o, s.heap.get? b = some o → h'.get? b = some o) → Q (.ref (s.heap.objs.size + 1)) { s with heap := h' }) :
    wpAny (model prog w) A (call (.type "enumerate") [v]) Q E s := by
  refine callType_new PySem.F.called_enumerate (by decide) (PySem.F.typeCall_enumerate_1 _) (PySem.F.newCall_enumerate_1 _) (fun obj => PySem.F.args_object_init_2 obj _) PySem.F.entry_enumerate_new (meets_enum1L B) ⟨h1, ?_⟩
  have hz : (s.heap.push o).objs.size = s.heap.objs.size + 1 := Heap.size_push ..
  refine (?_ : _ ∧ _)
  rw [hz]
  have he : IsEnum ((s.heap.push o).push { cls := .type "enumerate", data := .fields #[.none, .bool false, .ref s.heap.objs.size, rawInt 0, .none, .none] }) (s.heap.objs.size + 1) s.heap.objs.size 0 .none := hz ▸ Heap.get?_push_size (s.heap.push o) (o := { cls := .type "enumerate", data := .fields #[.none, .bool false, .ref s.heap.objs.size, rawInt 0, .none, .none] }) rfl
  exact ⟨⟨_, he, rfl⟩, h _ he (Heap.get?_push_of_some _ (Heap.get?_push_size _ B.free)) (by rw [Heap.size_push, hz]) fun b o x => Heap.get?_push_of_some _ (Heap.get?_push_of_some _ x)⟩
section
variable {X : Cx}
theorem enum_overL {pins : List (Addr × Obj)} {σ : L2.St} {H1 : Hp} {s1 : Shared} {elts : List Expr} {kk : Nat} {tpos : Pos} {R : It → Hp → Prop} {a : Addr} {xs : List V} {c : Int} (I1 : Inv X pins σ H1 s1) (hq : SqL X.K H1 a xs) (q : R (IteL X.K a c) H1) {h' : Heap}
    (he : IsEnum h' (s1.heap.objs.size + 1) s1.heap.objs.size c .none) (hi : h'.get? s1.heap.objs.size = some { cls := .type "list_iterator", data := .fields #[.ref a, .int 0 0] }) (hk : ∀ b o, s1.heap.get? b = some o → h'.get? b = some o) :
    wpAny (model X.prog X.w) X.A (pyIter (.ref (s1.heap.objs.size + 1))) (PIE X pins σ (.Tuple elts kk tpos) R) X.xe { s1 with heap := h' } := by
  refine wpAny_pyIter_enum he ?_
  have I2 : Inv X pins σ H1 { s1 with heap := h' } := I1.kept (t' := s1.toks) hk
  refine ⟨s1.heap.objs.size + 1, [s1.heap.objs.size + 1, s1.heap.objs.size], _, _, H1, rfl, I2, turn_enumL a (s1.heap.objs.size + 1) s1.heap.objs.size c, ⟨⟨.none, ?_⟩, ⟨_, hi, rfl, rfl⟩, Nat.succ_ne_self _⟩, fun b hb => ?_, q⟩
  · rw [show c + ((0 : Nat) : Int) = c by omega]; exact he
  · have hle : s1.heap.objs.size ≤ b := by
      rcases (by simpa using hb : b = s1.heap.objs.size + 1 ∨ b = s1.heap.objs.size) with z | z
      · rw [z]; exact Nat.le_add_right _ _
      · rw [z]; exact Nat.le_refl _
    exact I1.fpOk hle (I1.hok.fresh hle)
def iEnumL (K : PySem.W.Frag) (ta : TA) : TI := fun σ H R => ta σ H fun vs H1 => ∃ a xs, vs = [.ref a] ∧ SqL K H1 a xs ∧ R (IteL K a 0) H1
theorem pi_enumL {e : Expr} {ta : TA} {p pos tpos : Pos} {elts : List Expr} {kk : Nat} (hg : Gl X "enumerate") (hm : X.mg "enumerate" = none) (ha : PA X [e] ta) (hs : starEach [e] X.env = [(false, eval e X.env)] := by rfl) :
    PI X (.Tuple elts kk tpos) (.Call (.Name "enumerate" p) [e] [] pos) (iEnumL X.K ta) := by
  refine ⟨fun pins s σ H R I h => Call_ (ld_blt I hg hm boot_enumerate (PyProof.Rows.callWith_type1 (thn (ha.run pos pins s σ H _ I h) fun us s1 ⟨vs, H1, I1, r1, q1⟩ => ?_) hs rfl))⟩
  obtain ⟨a, xs, rfl, hq, q⟩ := q1
  rw [Vals.ref1 r1]
  obtain ⟨its, rv, pl, hz⟩ := I1.list hq
  have p' := pl.isList
  exact enum_begins1L (begins_list a its.toArray) p' fun h' he hi hsz hk => enum_overL I1 hq q he hi hk
def iEnumLS (K : PySem.W.Frag) (ta tk : TA) : TI := fun σ H R => ta σ H fun vs H1 => tk σ H1 fun zs H2 => ∃ a xs c, vs = [.ref a] ∧ zs = [.int c] ∧ 0 ≤ c ∧ c < 2 ^ 62 ∧ SqL K H2 a xs ∧ R (IteL K a c) H2
theorem pi_enumLS {e e2 : Expr} {ta tk : TA} {p pos tpos kpos : Pos} {elts : List Expr} {kk : Nat} (hg : Gl X "enumerate") (hm : X.mg "enumerate" = none) (ha : PA X [e] ta) (hk : PK X [⟨some "start", e2, kpos⟩] tk) (hs : starEach [e] X.env = [(false, eval e X.env)] := by rfl) :
    PI X (.Tuple elts kk tpos) (.Call (.Name "enumerate" p) [e] [⟨some "start", e2, kpos⟩] pos) (iEnumLS X.K ta tk) := by
  refine ⟨fun pins s σ H R I h => wpAny_Call_Name_kw (ld_blt I hg hm boot_enumerate (callWith_typeK ?_ (by rfl) ?_))⟩
  · rw [hs]; rfl
  rw [hs]
  refine PyProof.Rows.evalArgs_kwB (by rfl) ?_
  have run := ha.run pos pins s σ H _ I h
  rw [hs] at run
  refine thn run fun us s1 ⟨vs, H1, I1, r1, q1⟩ => thn (hk.run pos pins s1 σ H1 _ I1 q1) fun ws s2 ⟨zs, H2, I2, r2, q2⟩ => ?_
  obtain ⟨a, xs, c, rfl, rfl, c0, c1, hq, q⟩ := q2
  rw [Vals.ref1 r1]
  obtain ⟨u, rfl, t, rfl⟩ := vals1 r2
  obtain ⟨its, rv, pl, hz⟩ := I2.list hq
  have p' := pl.isList
  exact enum_begins_start (begins_list a its.toArray) p' (by omega) (by omega) fun h' he hi hsz hk' => enum_overL I2 hq q he hi hk'
end
theorem walk_enumL {K : PySem.W.Frag} {a : Addr} {xs : List V} {c : Int} : Walk (IteL K a c) xs.length (fun H => SqL K H a xs) (YPair (fun i => some (.int (c + (i : Int)))) (fun i => xs[i]?)) := by
  refine ⟨fun i _ hi q => ⟨xs, xs[i], q, List.getElem?_eq_getElem hi⟩, fun _ q => ⟨xs, q, Nat.le_refl _⟩, fun i H v H' _ q y => ?_⟩
  obtain ⟨T, x, h1, h2, h3, h4⟩ := y
  exact ⟨T, .int (c + (i : Int)), x, h1, h2, h3, rfl, h4 xs q⟩
/-! ### *x, y = a list; a statement that is never come to; str(..) of a number or a text -/
section
variable {X : Cx}
theorem ps_never {st : Stmt} : PS X st (fun _ _ _ => False) := ⟨fun _ _ _ _ _ _ z => z.elim⟩
theorem call_strA : CallR X (.type "str") (fun xs H Q => (∃ i : Int, xs = [.int i] ∧ i.natAbs.log2 < 1920 ∧ Q (.str (toString i)) H) ∨ ∃ a, xs = [.str a] ∧ Q (.str a) H) := by
  intro pins s σ H xs us Q I r h
  rcases h with h | h
  · exact call_str_int pins s σ H xs us Q I r h
  · exact SkE.call_str_str pins s σ H xs us Q I r h
def gStar (K : PySem.W.Frag) (t : TGs) : TG := fun v σ H Q => ∃ (a : Addr) (ys : List V) (y : V), v = .ref a ∧ SqL K H a (ys ++ [y]) ∧ ys.length < 16000 ∧ ∀ D, H D = none → t [.ref D, y] σ (upd H D (.lst ys)) Q
theorem pgs_star {e : Expr} {es : List Expr} {sp : Pos} {t : TG} {u : TGs} (h1 : PG X e t) (h2 : PGs X es u)
    (hs : (assignEach (.Starred e sp :: es) X.env).map (·.2) = assign e X.env :: (assignEach es X.env).map (·.2) := by rfl) : PGs X (.Starred e sp :: es) (gCons t u) := by
  refine ⟨fun pins s σ H vs us Q I r h => ?_⟩
  obtain ⟨v, vr, rfl, h⟩ := h
  cases r with
  | cons rv rr =>
    rw [hs]
    exact assignInOrder_cons (thn (h1.run pins s σ H _ _ _ I rv h) fun _ s1 ⟨σ1, H1, I1, q1⟩ => h2.run pins s1 σ1 H1 _ _ Q I1 rr q1)
theorem pg_star {es : List Expr} {k : Nat} {pos : Pos} {t : TGs} (hc : X.calm = true) (h : PGs X es t)
    (two : (assignEach es X.env).length = 2 := by rfl) (first : (assignEach es X.env).findIdx? (·.1) = some 0 := by rfl) : PG X (.Tuple es k pos) (gStar X.K t) := by
  refine ⟨fun pins s σ H v u Q I r hw => ?_⟩
  obtain ⟨a, ys, y, rfl, hq, hz, hw⟩ := hw
  cases r
  obtain ⟨its, rv, pl, lz⟩ := I.list hq
  have isL : s.heap.IsList a its.toArray := pl.isList
  have calm := I.ok.hd hc
  have li : its.length = ys.length + 1 := by rw [← rv.length, List.length_append, List.length_singleton]
  obtain ⟨us, w1, rfl, ru, rw1⟩ : ∃ us w1, its = us ++ [w1] ∧ Vals ys us ∧ RelV y w1 := by
    clear hq hw isL pl hz li lz
    induction ys generalizing its with
    | nil =>
      cases rv with
      | cons q rn =>
        cases rn
        exact ⟨[], _, rfl, .nil, q⟩
    | cons x ys ih =>
      cases rv with
      | cons q rn =>
        obtain ⟨us, w1, e, e1, e2⟩ := ih _ rn
        exact ⟨_ :: us, w1, by rw [e]; rfl, .cons q e1, e2⟩
  have lu : us.length = ys.length := ru.length.symm
  have apart : a ≠ s.heap.objs.size := by
    obtain ⟨ob, at1, _⟩ := isL
    exact Nat.ne_of_lt (Heap.lt_size at1)
  rw [PyProof.Rows.assign_Tuple]
  refine wpAny_bind (wpAny_standAt ?_)
  unfold unpack
  rw [two, first]
  refine wpAny_bind (wpAny_holding ?_)
  unfold unpackItems
  refine wpAny_bind (show wpAny _ _ (notIterableAtAll (.ref a)) _ _ s from ?_)
  unfold notIterableAtAll
  refine wpAny_bind (wpAny_specialOf isL.typeIs slot_list_iter.lookup (wpAny_pure ?_))
  simp only [Bool.false_eq_true, if_false]
  refine wpAny_bind (wpAny_holding (wpAny_pyIter_list isL ?_))
  refine wpAny_bind (wpAny_holding (PySem.W.kun_draw apart 0 0 _ _ ⟨_, Heap.get?_push_size _ rfl, rfl, rfl⟩ (isL.push _) (Nat.zero_le _) fun g1 at1 sb1 => ?_))
  have isL1 : g1.IsList a (us ++ [w1]).toArray := (isL.push _).extBut sb1.extBut apart
  obtain ⟨oi, ati, _⟩ := id at1
  obtain ⟨ol, atl, _⟩ := id isL1
  rw [List.take_zero]
  refine wp_if_neg (by decide) ?_
  refine wpAny_bind (wpAny_holding (PySem.W.kun_collect (s := { s with heap := g1 }) (T := "list_iterator") (.inr (.inr (.inl rfl))) (Walks.list (A := X.A.in1) calm s.heap.objs.size a apart (us ++ [w1]).toArray) (fun j u st => st.1.typeIs) (k := 0) (Nat.zero_le _) ⟨at1, isL1⟩ (Heap.lt_size ati) (Heap.lt_size atl) (fun g2 tk old => ?_) (by rw [List.size_toArray, List.length_append, List.length_singleton, sizeLine_eq]; omega)))
  have l0 : (us ++ [w1]).toArray.toList = us ++ [w1] := rfl
  rw [List.drop_zero, l0]
  have ln : (us ++ [w1]).length = us.length + 1 := by rw [List.length_append, List.length_singleton]
  refine wp_if_neg (by rw [ln]; omega) ?_
  have e1 : (us ++ [w1]).take ((us ++ [w1]).length - (2 - 1 - 0)) = us := by rw [ln, Nat.add_sub_cancel, List.take_left' rfl]
  have e2 : (us ++ [w1]).drop ((us ++ [w1]).length - (2 - 1 - 0)) = [w1] := by rw [ln, Nat.add_sub_cancel, List.drop_left' rfl]
  rw [e1, e2]
  refine wpAny_bind (wpAny_newList (wpAny_pure ?_) (by rw [sizeLine_eq]; omega))
  have old2 : ∀ b o, s.heap.get? b = some o → g2.get? b = some o := fun b o e => old b o (Nat.ne_of_lt (Heap.lt_size e)) (sb1.extBut b o (Nat.ne_of_lt (Heap.lt_size e)) (Heap.get?_push_of_some _ e))
  have I1 : Inv X pins σ H { s with heap := g2, toks := tk } := I.kept (t' := tk) old2
  have fresh : H g2.objs.size = none := I1.hok.fresh (Nat.le_refl _)
  have I2 : Inv X pins σ (upd H g2.objs.size (.lst ys)) { s with heap := g2.push (seqObj "list" us.toArray 0), toks := tk } :=
    I1.laid (t' := tk) (fun b o e => Heap.get?_push_of_some _ e) (Nat.le_refl _) ⟨by rw [sizeLine_eq]; omega, us, 0, ru, Heap.get?_push_size _ rfl⟩
  exact h.run pins _ σ _ [.ref g2.objs.size, y] [.ref g2.objs.size, w1] Q I2 (.cons rfl (.cons rw1 .nil)) (hw _ fresh)
theorem pe_joinK {o e : Expr} {to te : TE} (K : PySem.W.Frag) (hK : X.K = K) {apos pos : Pos} (ho : PE X o to) (he : PE X e te) (hs : starEach [e] X.env = [(false, eval e X.env)] := by rfl) (hbase : attributeBase o "join" X.env (eval o X.env) = eval o X.env := by rfl) (hline : (apos.endLine == pos.line) = true := by rfl) :
    PE X (.Call (.Attribute o "join" apos) [e] [] pos) (tM1 (fun x xs H Q => ∃ a p, ∃ ys : List Str, x = .str a ∧ xs = [.ref p] ∧ (SqL K H p (ys.map V.str) ∨ SqT K H p (ys.map V.str)) ∧
      (ys.map (·.length)).sum + ys.length * a.length ≤ 16777216 ∧ Q (.str (Txt.join a ys)) H) to te) := hK ▸ pe_join ho he hs hbase hline
end
/-! ### a generator expression over a list; int(..) of a text within one -/
theorem over_lst {X : Cx} {s1 : Shared} {a T : Addr} {its : List Value} {ps : Array Value} (calm : X.A.handled = none) (ht : s1.heap.IsList a its.toArray) (hT : s1.heap.get? T = some { cls := .none, data := .fields ps }) : OverOk X (.ref a) s1 its.length (fun i v => its[i]? = some v) T := by
  have al : a < s1.heap.objs.size := by
    obtain ⟨o, ho, _⟩ := ht
    exact Heap.lt_size ho
  have aT : a ≠ T := fun z => by
    obtain ⟨o, ho, hcl, _⟩ := ht
    rw [z, hT] at ho
    cases ho
    cases hcl
  have tT : s1.heap.objs.size ≠ T := fun z => Nat.lt_irrefl _ (z ▸ Heap.lt_size hT)
  have sz : its.toArray.size = its.length := List.size_toArray ..
  refine ⟨{ cls := .type "list_iterator", data := .fields #[.ref a, .int 0 0] }, [s1.heap.objs.size, a], fun i h => h.IsListIter s1.heap.objs.size a i ∧ h.IsList a its.toArray, fun Q E q => wpAny_pyIter_list ht q, fun A' hA => ?_, fun b hb => ?_, fun h' k => ⟨?_, ?_⟩, fun i h st => ?_⟩
  · have W := Walks.list (prog := X.prog) (w := X.w) hA s1.heap.objs.size a (Nat.ne_of_lt al) its.toArray
    rw [sz] at W
    refine { W with item := fun i s Q E hi st hQ => W.item i s Q E hi st fun v h' tk hv => hQ v h' tk (by simpa using hv) }
  · rcases List.mem_cons.mp hb with z | z
    · exact Nat.le_of_eq z
    · rw [List.mem_singleton.mp z]; exact Nat.le_of_lt al
  · exact ⟨_, k _ _ tT (Heap.get?_push_size _ rfl), rfl, rfl⟩
  · obtain ⟨o, ho, r⟩ := ht
    exact ⟨o, k _ _ aT (Heap.get?_push_of_some _ ho), r⟩
  · obtain ⟨⟨o, ho, _⟩, _⟩ := st
    exact ⟨o, ho⟩
section
variable {P : Program} {w : World} {A : Around} {env : Env} {s : Shared} {e : Expr} {pos p : Pos}
abbrev IsS (x : Str) : Value → Prop := fun y => ∃ t, y = .str x t
theorem gv_intT {x : Str} {n : Int} {mg mb : Str → Option Value} (hk : env.scope.kind = .function) (hx : env.kindOf "int" = some .globalImplicit) (hg : s.heap.Ns env.globals mg) (hm : mg "int" = none) (hb : s.heap.Ns env.builtins mb) (hv : mb "int" = some (.type "int"))
    (he : GV P w A env s e (IsS x)) (hn : PySem.intText? x = some n) (hl : x.length ≤ 640) (hs : starEach [e] env = [(false, eval e env)] := by rfl) : GV P w A env s (.Call (.Name "int" p) [e] [] pos) (IsI n) := fun E s1 k => by
  refine Call_Name1 ?_ hs
  refine Calls.Name_function_global hk hx (Calls.loadGlobal_builtin (hg.keeps (keepsH k)) hm (hb.keeps (keepsH k)) hv ?_)
  refine PyProof.Rows.callWith_type (by rfl) ?_
  refine Calls.evalArgs_plain (Calls.spliced_cons (wpAny_mono (he E s1 k) (fun y s2 ⟨⟨t, ey⟩, k2⟩ => ?_) fun _ _ z => z))
  subst ey
  exact Calls.spliced_nil (PySem.W.KIN.call_text hn hl ⟨⟨_, rfl⟩, keepsK k2 _⟩)
end
/-! ### own errors with two fields: raised, caught, asked -/
/-- what the text says of the class at C (over ValueError, by way of the class at B), of its __init__ at fI -/
structure ErrTxt (K : PySem.W.Frag) (mg : Str → Option Value) (x xB f g : Str) (C B fI : Addr) : Prop where
  gC : mg x = some (.ref C)
  gB : mg xB = some (.ref B)
  ox : OexC K C
  xf : XfC K C
  ec : ExcC K C
  iC : PySem.W.findIn K (.ref C) "__init__" = some (some (.ref fI))
  tI : PySem.W.typeIn K (.ref fI) = some (.type "function")
  nf : PySem.W.findIn K (.ref C) f = some none
  ng : PySem.W.findIn K (.ref C) g = some none
  te : PySem.W.exmOne K (.ref C) (.ref C) = some true
  kB : PySem.W.kitOne K (.ref C) (.ref B) = some true
  kV : PySem.W.kitOne K (.ref C) (.type "ValueError") = some true
  tB : PySem.W.exmOne K (.ref C) (.ref B) = some true
/-- what __init__ leaves -/
def spInit2 (K : PySem.W.Frag) (C : Addr) (f g : Str) : Sp := fun vs H Q _ => ∃ (a : Addr) (x y : V), vs = [.ref a, x, y] ∧ H a = some (exo a C none) ∧
  ∀ dx, H dx = none → dx ≠ a → Q .non (upd (upd (upd H dx (exd dx [(f, x)])) a (exo a C (some dx))) dx (exd dx [(g, y), (f, x)]))
/-- the class called with two values: what then is to be shown -/
theorem err_two {K : PySem.W.Frag} {C : Addr} {f g : Str} {x y : V} {H1 : Hp} {Q : XK} (k : ∀ d, H1 d = none → Q (.ref C) (some d) (upd H1 d (.xd [(g, y), (f, x)]))) :
    ([x, y] : List V).length ≤ 1000 ∧ ∀ a, H1 a = none → spInit2 K C f g (.ref a :: ([x, y] ++ [])) (upd H1 a (exo a C none))
      (fun v H2 => v = .non ∧ ∃ (d : Addr) (fs : List (Str × V)), H2 a = some (exo a C (some d)) ∧ H2 d = some (exd d fs) ∧ H1 d = none ∧ Q (.ref C) (some d) (upd (del H2 a) d (.xd fs))) (fun _ _ _ => False) := by
  refine ⟨by show 2 ≤ 1000; decide, fun a ha => ⟨a, x, y, rfl, upd_same, fun dx hd ne => ?_⟩⟩
  have hd1 : H1 dx = none := by
    rw [upd_ne ne] at hd
    exact hd
  refine ⟨rfl, dx, [(g, y), (f, x)], ?_, upd_same, hd1, ?_⟩
  · rw [upd_ne (Ne.symm ne), upd_same]
  · have e : upd (del (upd (upd (upd (upd H1 a (exo a C none)) dx (exd dx [(f, x)])) a (exo a C (some dx))) dx (exd dx [(g, y), (f, x)])) a) dx (.xd [(g, y), (f, x)]) = upd H1 dx (.xd [(g, y), (f, x)]) := by
      funext b
      by_cases bd : b = dx
      · rw [bd, upd_same, upd_same]
      · rw [upd_ne bd, upd_ne bd]
        by_cases ba : b = a
        · rw [ba, del_same, ha]
        · rw [del_ne ba, upd_ne bd, upd_ne ba, upd_ne bd, upd_ne ba]
    rw [e]
    exact k dx hd1
/-- what __init__ leaves that sets one field -/
def spInit1 (K : PySem.W.Frag) (C : Addr) (f : Str) : Sp := fun vs H Q _ => ∃ (a : Addr) (x : V), vs = [.ref a, x] ∧ H a = some (exo a C none) ∧
  ∀ dx, H dx = none → dx ≠ a → Q .non (upd (upd H dx (exd dx [(f, x)])) a (exo a C (some dx)))
/-- the class called with one value: what then is to be shown -/
theorem err_one {K : PySem.W.Frag} {C : Addr} {f : Str} {x : V} {H1 : Hp} {Q : XK} (k : ∀ d, H1 d = none → Q (.ref C) (some d) (upd H1 d (.xd [(f, x)]))) :
    ([x] : List V).length ≤ 1000 ∧ ∀ a, H1 a = none → spInit1 K C f (.ref a :: ([x] ++ [])) (upd H1 a (exo a C none))
      (fun v H2 => v = .non ∧ ∃ (d : Addr) (fs : List (Str × V)), H2 a = some (exo a C (some d)) ∧ H2 d = some (exd d fs) ∧ H1 d = none ∧ Q (.ref C) (some d) (upd (del H2 a) d (.xd fs))) (fun _ _ _ => False) := by
  refine ⟨by show 1 ≤ 1000; decide, fun a ha => ⟨a, x, rfl, upd_same, fun dx hd ne => ?_⟩⟩
  have hd1 : H1 dx = none := by
    rw [upd_ne ne] at hd
    exact hd
  refine ⟨rfl, dx, [(f, x)], upd_same, ?_, hd1, ?_⟩
  · rw [upd_ne ne, upd_same]
  · have e : upd (del (upd (upd (upd H1 a (exo a C none)) dx (exd dx [(f, x)])) a (exo a C (some dx))) a) dx (.xd [(f, x)]) = upd H1 dx (.xd [(f, x)]) := by
      funext b
      by_cases bd : b = dx
      · rw [bd, upd_same, upd_same]
      · rw [upd_ne bd, upd_ne bd]
        by_cases ba : b = a
        · rw [ba, del_same, ha]
        · rw [del_ne ba, upd_ne ba, upd_ne bd, upd_ne ba]
    rw [e]
    exact k dx hd1
/-- isinstance of the caught error -/
def rIsX (K : PySem.W.Frag) (D a : Addr) (cls : Value) (d : Option Addr) : List V → Hp → VK → Prop := fun xs H Q => ∃ (c : V) (cv : Value) (b : Bool) (dd : Addr) (fs : List (Str × V)), xs = [.ref a, c] ∧ cls = .ref D ∧ d = some dd ∧ H dd = some (.xd fs) ∧ (∀ u, RelV c u → u = cv) ∧ PySem.W.kitOne K (.ref D) cv = some b ∧ Q (.bl b) H
theorem call_isX {X : Cx} {a D : Addr} {oe : Obj} {cls : Value} {d : Option Addr} {pn : List (Addr × Obj)} (C : ExcC X.K D) (hz : Zc cls d oe) (hf : ∃ vs, oe.data = .fields vs) : CallR (X.suite a ((a, oe) :: pn)) (.builtin "isinstance") (rIsX X.K D a cls d) := by
  intro pins s σ H xs us Q I r h
  obtain ⟨c, cv, b, dd, fs, rfl, ec, ed, hdd, hcv, e, q⟩ := h
  cases r with
  | cons rx rr =>
    cases rr with
    | cons rt rr =>
      cases rr
      cases rx
      have ecv := hcv _ rt
      subst ecv
      subst ec
      subst ed
      obtain ⟨hget, _⟩ := I.pin (a, oe) (List.mem_append.mpr (.inl List.mem_cons_self))
      obtain ⟨vs, hv⟩ := hf
      have hx : ObjOk X.prog X.w H s.heap dd (.xd fs) := I.hok dd _ hdd
      obtain ⟨mA, hns, hr⟩ := hx
      obtain ⟨od, ho, hl⟩ := lookIn_ns hns
      have J : PySem.W.InstAt s.heap a oe D (some od) := ⟨hget, hz.1, by unfold PySem.W.notCls; rw [hv] <;> rfl, by rw [hz.2]; exact ho⟩
      have hcl : (PySem.W.clsIn X.K D).isSome = true := by
        obtain ⟨cd, hc, _⟩ := PySem.W.any_some C.hd
        rw [hc]
        rfl
      exact PySem.W.kia_one (PySem.W.kitx_exc hcl C.hg C.hk C.hs C.ha C.hn C.ht C.hm) I.kIn J e (fun z => nomatch z) fun tk => ⟨.bl b, H, I.kept (t' := tk) fun _ _ z => z, rfl, q⟩
/-- an error of the class at S is what «except S» names; the class of which it is one -/
theorem exm_self {K : PySem.W.Frag} {S : Addr} (h1 : PySem.W.subIn K (.ref S) (.type "BaseException") = some true) (h2 : PySem.W.isClsIn K S = true) (h3 : PySem.W.typeIn K (.ref S) = some (.type "type")) (h4 : PySem.W.subIn K (.ref S) (.ref S) = some true) :
    PySem.W.exmOne K (.ref S) (.ref S) = some true := by
  have e1 : (PySem.W.subIn K (.ref S) (.type "BaseException") == some true) = true := by rw [h1] <;> rfl
  have e2 : ((PySem.W.clsIn K S).isSome && PySem.W.typeIn K (.ref S) == some (.type "type")) = true := by
    have h2' : (PySem.W.clsIn K S).isSome = true := h2
    rw [h2', h3] <;> rfl
  show (if (PySem.W.subIn K (.ref S) (.type "BaseException") == some true) = true then (if ((PySem.W.clsIn K S).isSome && PySem.W.typeIn K (.ref S) == some (.type "type")) = true then PySem.W.subIn K (.ref S) (.ref S) else none) else none) = some true
  rw [if_pos e1, if_pos e2]
  exact h4
theorem kit_ref {K : PySem.W.Frag} {S B : Addr} (h2 : PySem.W.isClsIn K B = true) (h3 : PySem.W.typeIn K (.ref B) = some (.type "type")) (h4 : PySem.W.subIn K (.ref S) (.ref B) = some true) : PySem.W.kitOne K (.ref S) (.ref B) = some true := by
  have e2 : ((PySem.W.clsIn K B).isSome && PySem.W.typeIn K (.ref B) == some (.type "type")) = true := by
    have h2' : (PySem.W.clsIn K B).isSome = true := h2
    rw [h2', h3] <;> rfl
  show (if (Value.ref S == Value.ref B) = true then some true else (if ((PySem.W.clsIn K B).isSome && PySem.W.typeIn K (.ref B) == some (.type "type")) = true then PySem.W.subIn K (.ref S) (.ref B) else none)) = some true
  rw [if_pos e2, h4]
  split <;> rfl
theorem kit_VE {K : PySem.W.Frag} {S : Addr} (h4 : PySem.W.subIn K (.ref S) (.type "ValueError") = some true) : PySem.W.kitOne K (.ref S) (.type "ValueError") = some true := by
  have e0 : ¬ (Value.ref S == Value.type "ValueError") = true := fun z => by
    have z' := beq_iff_eq.mp z
    cases z'
  have e1 : PySem.W.kitMeta "ValueError" = true := by decide +kernel
  show (if (Value.ref S == Value.type "ValueError") = true then some true else (if PySem.W.kitMeta "ValueError" = true then PySem.W.subIn K (.ref S) (.type "ValueError") else none)) = some true
  rw [if_neg e0, if_pos e1]
  exact h4
/-- an error is one of its base, which may be named by «except» -/
theorem exm_base {K : PySem.W.Frag} {S B : Addr} (h1 : PySem.W.subIn K (.ref B) (.type "BaseException") = some true) (h2 : PySem.W.isClsIn K B = true) (h3 : PySem.W.typeIn K (.ref B) = some (.type "type")) (h4 : PySem.W.subIn K (.ref S) (.ref B) = some true) :
    PySem.W.exmOne K (.ref S) (.ref B) = some true := by
  have e1 : (PySem.W.subIn K (.ref B) (.type "BaseException") == some true) = true := by rw [h1] <;> rfl
  have e2 : ((PySem.W.clsIn K B).isSome && PySem.W.typeIn K (.ref B) == some (.type "type")) = true := by
    have h2' : (PySem.W.clsIn K B).isSome = true := h2
    rw [h2', h3] <;> rfl
  show (if (PySem.W.subIn K (.ref B) (.type "BaseException") == some true) = true then (if ((PySem.W.clsIn K B).isSome && PySem.W.typeIn K (.ref B) == some (.type "type")) = true then PySem.W.subIn K (.ref S) (.ref B) else none) else none) = some true
  rw [if_pos e1, if_pos e2]
  exact h4
theorem kit_same {K : PySem.W.Frag} {S : Addr} : PySem.W.kitOne K (.ref S) (.ref S) = some true := by
  have e : (Value.ref S == Value.ref S) = true := beq_iff_eq.mpr rfl
  show (if (Value.ref S == Value.ref S) = true then some true else _) = some true
  rw [if_pos e]
/-! ### defs whose calls know that no repr is under way -/
structure FnOkG (P : Program) (w : World) (K : PySem.W.Frag) (mg : Str → Option Value) (base : Heap) (CX : CXT) (k : Nat) (f : Addr) (fd : FuncData) (ps : List Str) (sp : Sp) : Prop where
  len : ∀ vs H Q E, sp vs H Q E → vs.length = ps.length
  run : ∀ (A : Around) (outer : List Env) (s : Shared) (H : Hp) (args : Args) (us : List Value) (vs : List V) (Q : VK) (E : XK), A.guards = some [] → Room k A → Env0 P w K mg base A outer s H → BindsTo s fd args (ps.zip us) → Vals vs us → sp vs H Q E →
    codeAny (model P w) A (.call (.ref f) args) (CR CX outer P w H s Q E) s
theorem fn_ofG {CX : CXT} {P : Program} {w : World} {K : PySem.W.Frag} {mg : Str → Option Value} {base : Heap} {k : Nat} {f : Addr} {name qual : Str} {params : Arguments} {body : List Stmt} {scope : Scope} {dV kV doc pm cdv ct oc : Value} {an od : Option Addr}
    {osl : Array (Option Value)} {N ps : List Str} {sp : Sp} (lk : K.lookup f = some ⟨oc, od, .func (PySem.W.fnOf name qual params body scope dV kV doc pm an cdv ct), osl⟩) (hcd : PySem.W.codeIn K cdv qual = true) (S : FnScope N ps scope)
    (len : ∀ vs H Q E, sp vs H Q E → vs.length = ps.length)
    (hbody : ∀ (A : Around) (outer : List Env) (s : Shared) (H : Hp) (vs : List V) (Q : VK) (E : XK), A.guards = some [] → Room k (A.deeper (envOfC qual scope s.heap.objs.size f cdv)) → sp vs H Q E →
      ∃ t, PSs (cxOf CX P w K mg base N qual scope f cdv A outer s H E) body t ∧ t { nx := fun _ H' => Q .non H', rt := Q } (start N vs) H) :
    FnOkG P w K mg base CX (k + 1) f (PySem.W.fnOf name qual params body scope dV kV doc pm an cdv ct) ps sp := by
  refine ⟨len, fun A outer s H args us vs Q E hg hr e0 hb r hsp => ?_⟩
  have hl := len _ _ _ _ hsp
  have KX : K.In s.heap := e0.mod.kin.keeps fun b o e => (e0.bs b o e).1
  have lim : s.heap.NoLimit := e0.mod.nolimit.keeps fun b o e => (e0.bs b o e).1
  have hkind : ∀ y ∈ ps.zip us, scope.names.lookup y.1 = some .local ∨ (scope.names.lookup y.1 = some .cell ∧ ((cellsFrom (s.heap.objs.size + 1) scope.names []).lookup y.1).isSome = true) := fun ⟨n, v⟩ hy => by
    rcases S.par n (List.of_mem_zip hy).1 with q | q
    · exact .inl q
    · exact .inr ⟨q, PySem.W.cellsFrom_some _ _ _ (.inl q)⟩
  refine codeAny_call_function hr.depth (KX _ _ lk) rfl S.co S.gen rfl (PySem.W.codeRec_of KX hcd) (hb _ _ _ _ ?_)
  refine wpAny_newFunctionEnv_cells S.kind hkind fun env he s1 x => ?_
  subst he
  refine ⟨lim.keeps x.toInCall.keep, codeAny_func ?_⟩
  obtain ⟨t, ht, hq⟩ := hbody A outer s H vs Q E hg (hr.deeper _) hsp
  have I : Inv (cxOf CX P w K mg base N qual scope f cdv A outer s H E) [] (start N vs) H s1 := inv_start S hr.hd e0 hl r x
  refine wpAny_mono (ht.run [] s1 (start N vs) H _ I hq) (fun fl s' hs => ?_) fun e s' hs => hs
  have fin : ∀ {σ' : L2.St} {H' : Hp} {v : V} {u : Value}, Inv (cxOf CX P w K mg base N qual scope f cdv A outer s H E) [] σ' H' s' → RelV v u → Q v H' → CE outer P w H s Q u s' :=
    fun {σ' H' v u} J rv q => ⟨v, H', J.os, J.bare, J.base, J.hok, rv, q⟩
  cases fl with
  | ret u =>
    obtain ⟨v, σ', H', J, rv, q⟩ := hs
    exact fin J rv q
  | next =>
    obtain ⟨σ', H', J, q⟩ := hs
    exact fin (v := V.non) (u := Value.none) J rfl q
  | brk =>
    obtain ⟨_, _, _, q⟩ := hs
    exact False.elim q
  | cont =>
    obtain ⟨_, _, _, q⟩ := hs
    exact False.elim q
theorem Fun.okG {P : Program} {w : World} {K : PySem.W.Frag} {mg : Str → Option Value} {base : Heap} {x qual : Str} {st : Stmt} {f : Addr} {fd : FuncData} {N ps : List Str} {k : Nat} {sp : Sp} (F : Fun K x qual st f fd) (S : FnScope N ps (defScope st)) (len : ∀ vs H Q E, sp vs H Q E → vs.length = ps.length)
    (hbody : ∀ (cdv : Value) (A : Around) (outer : List Env) (s : Shared) (H : Hp) (vs : List V) (Q : VK) (E : XK), A.guards = some [] → Room k (A.deeper (envOfC qual (defScope st) s.heap.objs.size f cdv)) → sp vs H Q E →
      ∃ t, PSs (cxOf CX0 P w K mg base N qual (defScope st) f cdv A outer s H E).nox (defBody st) t ∧ t { nx := fun _ H' => Q .non H', rt := Q } (start N vs) H) : FnOkG P w K mg base CX0 (k + 1) f fd ps sp := by
  obtain ⟨oc, od, kV, doc, pm, an, cdv, ct, osl, rfl, lk, hcd⟩ := F.ex
  refine fn_ofG lk hcd S len fun A outer s H vs Q E hg hr hsp => ?_
  obtain ⟨t, h, q⟩ := hbody cdv A outer s H vs Q E hg hr hsp
  exact ⟨t, h.nox, q⟩
section
variable {X : Cx} {CX : CXT} {k : Nat} {f C : Addr} {fd : FuncData} {ps : List Str} {sp : Sp} {dvs : List V} {ds : List Value} {E : XK} {x m : Str} {p pos apos : Pos} {e o : Expr} {es : List Expr} {ta : TE} {t : TA}
theorem run_fnG {pins : List (Addr × Obj)} {σ : L2.St} {H : Hp} {s : Shared} {Q : VK} {us : List Value} {vs : List V} (F : FnOkG X.prog X.w X.K X.mg X.base CX k f fd ps sp) (hgd : X.A.guards = some []) (hr : Room k X.A) (hb : Binds X.K fd ps ds) (hd : Vals dvs ds) (hx : Passes CX X E)
    (I : Inv X pins σ H s) (r : Vals vs us) (h : sp (vs ++ dvs) H Q E) : wpAny (model X.prog X.w) X.A (call (.ref f) us) (EP X pins σ Q) X.xe s := by
  have r2 : Vals (vs ++ dvs) (us ++ ds) := r.append hd
  have hl : (us ++ ds).length = ps.length := by rw [← r2.length]; exact F.len _ _ _ _ h
  refine wpAny_call (codeAny_mono (F.run X.A X.stack s H ⟨us, []⟩ (us ++ ds) (vs ++ dvs) Q E hgd hr I.env0 (hb s us I.kIn hl) r2 h) fun r s' hq => ?_)
  cases r with
  | error e => exact hx pins σ H s e s' I hq
  | ok fl =>
    cases fl with
    | ret u => exact I.after hq
    | next => exact False.elim hq
    | brk => exact False.elim hq
    | cont => exact False.elim hq
theorem pe_callG (F : FnOkG X.prog X.w X.K X.mg X.base CX k f fd ps sp) (hgd : X.A.guards = some []) (hr : Room k X.A) (hg : Gl X x) (hm : X.mg x = some (.ref f)) (hk : PySem.W.keepIn X.K (.ref f) = true) (hb : Binds X.K fd ps ds) (hd : Vals dvs ds) (hx : Passes CX X E)
    (ha : PA X (e :: es) t) (hdb : (x == ("__debug__" : Str)) = false := by decide) (he : starEach (e :: es) X.env = (false, eval e X.env) :: starEach es X.env := by rfl) (hpl : (backTo pos (starEach es X.env)).any (·.1) = false := by rfl) :
    PE X (.Call (.Name x p) (e :: es) [] pos) (tCall sp dvs E t) := by
  refine ⟨fun pins s σ H Q I h => ?_⟩
  refine wpAny_Call_Name_kw (ld_glob I hg hm ?_ hdb)
  refine PySem.W.callWith_K (h₀ := X.base) I.ok.mod.kin hk (thn (ha.run pos pins s σ H _ I h) fun us s1 ⟨vs, H1, I1, r, q⟩ => ⟨I1.kIn, ?_⟩) he hpl
  exact run_fnG F hgd hr hb hd hx I1 r q
end
/-! ### tables of sets of up to some three hundred: masks to 511 -/
open PySem.SetTable in
def orbL (m : Nat) : Nat → Nat → List Nat
  | 0, _ => []
  | n + 1, x => x :: orbL m n ((x * 5 + 1) % (m + 1))
theorem orbL_at (m a : Nat) : ∀ (n : Nat) (y : Nat), y ∈ orbL m n (lcgN m a) → ∃ b, b < a + n ∧ lcgN m b = y
  | 0, _, hy => absurd hy List.not_mem_nil
  | n + 1, y, hy => by
    rcases List.mem_cons.mp hy with e | e
    · exact ⟨a, by omega, e.symm⟩
    · obtain ⟨b, hb, eb⟩ := orbL_at m (a + 1) n y e
      exact ⟨b, by omega, eb⟩
def orbFull (m : Nat) : Bool := (List.range (m + 1)).all (fun y => (orbL m (m + 1) 0).contains y) && (lcgN m (m + 1) == 0)
/-- the masks whose round is whole -/
def MaskW (m : Nat) : Prop := m = 7 ∨ m = 31 ∨ m = 127 ∨ m = 511
theorem orb_7 : orbFull 7 = true := by decide +kernel
theorem orb_31 : orbFull 31 = true := by decide +kernel
theorem orb_127 : orbFull 127 = true := by decide +kernel
theorem orb_511 : orbFull 511 = true := by decide +kernel
theorem MaskW.full {m : Nat} (W : MaskW m) : orbFull m = true := by
  rcases W with e | e | e | e <;> subst e
  · exact orb_7
  · exact orb_31
  · exact orb_127
  · exact orb_511
theorem MaskW.odd {m : Nat} (W : MaskW m) : m % 2 = 1 := by
  rcases W with e | e | e | e <;> subst e <;> rfl
theorem MaskW.from0 {m y : Nat} (W : MaskW m) (hy : y ≤ m) : ∃ b, b ≤ m ∧ lcgN m b = y := by
  have f := W.full
  unfold orbFull at f
  rw [Bool.and_eq_true] at f
  have g := List.all_eq_true.mp f.1 y (List.mem_range.mpr (by omega))
  obtain ⟨b, hb, e⟩ := orbL_at m 0 (m + 1) y (List.contains_iff_mem.mp g)
  exact ⟨b, by omega, e⟩
theorem MaskW.again {m : Nat} (W : MaskW m) : ∀ k, lcgN m (m + 1 + k) = lcgN m k
  | 0 => by
    have f := W.full
    unfold orbFull at f
    rw [Bool.and_eq_true] at f
    exact beq_iff_eq.mp f.2
  | k + 1 => by
    have e := W.again k
    show (lcgN m (m + 1 + k) * 5 + 1) % (m + 1) = _
    rw [e]
    rfl
theorem MaskW.round {m x y : Nat} (W : MaskW m) (hx : x ≤ m) (hy : y ≤ m) : ∃ k, k ≤ m ∧ lcgI m x k = y := by
  obtain ⟨p, hp, rfl⟩ := W.from0 hx
  obtain ⟨q, hq, rfl⟩ := W.from0 hy
  by_cases c : p ≤ q
  · exact ⟨q - p, by omega, by rw [lcgN_add, show p + (q - p) = q by omega]⟩
  · exact ⟨q + (m + 1) - p, by omega, by rw [lcgN_add, show p + (q + (m + 1) - p) = m + 1 + q by omega, W.again]⟩
theorem MaskW.run {m : Nat} (W : MaskW m) (g : Int) {y : Nat} (hy : y ≤ m) : ∃ n, n ≤ m + 12 ∧ runI m (SetTable.bits g) n = y := by
  obtain ⟨k, hk, e⟩ := W.round (runI_le m (SetTable.bits g) 12) hy
  refine ⟨12 + k, by omega, ?_⟩
  rw [runI_tail (bits_lt g), e]
theorem MaskW.meets {m : Nat} (W : MaskW m) (g : Int) {y : Nat} (hy : y ≤ m) : ∃ k, k < 10 * SetTable.turns m ∧ way m g k = y := by
  obtain ⟨n, hn, e⟩ := W.run g hy
  obtain ⟨k, hk, e2⟩ := run_nth m (SetTable.bits g) n
  have t : SetTable.turns m = m + 15 := rfl
  refine ⟨k, by omega, ?_⟩
  show (nth m (runAt m (SetTable.bits g % (m + 1)) (SetTable.bits g)) k).j = y
  rw [e2]
  exact e
theorem way_in (m : Nat) (g : Int) (k : Nat) : way m g k ≤ m := by
  have lo : SetTable.bits g % (m + 1) ≤ m := Nat.lt_succ_iff.mp (Nat.mod_lt _ (Nat.succ_pos m))
  have up := runEnd_bd lo
  have z := nth_in (m := m) k (runAt m (SetTable.bits g % (m + 1)) (SetTable.bits g)) (by show SetTable.bits g % (m + 1) + (SetTable.runEnd m (SetTable.bits g % (m + 1)) - SetTable.bits g % (m + 1)) ≤ m; omega)
  exact Nat.le_trans (Nat.le_add_right _ _) z
/-- the table finds each of its hashes again -/
structure TabW (t : SetTable) (gs : List Int) : Prop where
  ris : Ris t.place.toList
  dm : t.dummies = #[]
  sz : t.place.size = gs.length
  mok : MaskW t.mask
  bd : ∀ y ∈ t.place.toList, y ≤ t.mask
  reach : ∀ (n : Nat) (g : Int) (y : Nat), gs[n]? = some g → t.place.toList[n]? = some y → ∃ c, way t.mask g c = y ∧ ∀ d, d < c → way t.mask g d ∈ t.place.toList
section
variable {t : SetTable} {gs : List Int}
theorem TabW.first (T : TabW t gs) (few : gs.length ≤ t.mask) (g : Int) : ∃ N, N < 10 * SetTable.turns t.mask ∧ way t.mask g N ∉ t.place.toList ∧ ∀ d, d < N → way t.mask g d ∈ t.place.toList := by
  obtain ⟨y, hy, out⟩ := st_missing t.place.toList (t.mask + 1) (by rw [Array.length_toList, T.sz]; omega)
  obtain ⟨c, hc, e⟩ := T.mok.meets g (Nat.lt_succ_iff.mp hy)
  obtain ⟨N, a1, a2, a3⟩ := st_least (p := fun c => way t.mask g c ∉ t.place.toList) c (by rw [e]; exact out)
  exact ⟨N, by omega, a2, fun d hd => Classical.not_not.mp (a3 d hd)⟩
theorem TabW.before (T : TabW t gs) {g : Int} {N n y : Nat} (out : way t.mask g N ∉ t.place.toList) (e1 : gs[n]? = some g) (e2 : t.place.toList[n]? = some y) : ∃ d, d < N ∧ way t.mask g d = y := by
  obtain ⟨c, ec, full⟩ := T.reach n g y e1 e2
  by_cases lt : c < N
  · exact ⟨c, lt, ec⟩
  · by_cases eq : c = N
    · rw [← eq, ec] at out
      exact absurd (List.mem_of_getElem? e2) out
    · exact absurd (full N (by omega)) out
theorem TabW.put (T : TabW t gs) {g : Int} {N : Nat} (out : way t.mask g N ∉ t.place.toList) (full : ∀ d, d < N → way t.mask g d ∈ t.place.toList) :
    (t.put (way t.mask g N)).2 = SetTable.below t.place (way t.mask g N) ∧ SetTable.below t.place (way t.mask g N) ≤ gs.length ∧
    TabW (t.put (way t.mask g N)).1 (gs.take (SetTable.below t.place (way t.mask g N)) ++ g :: gs.drop (SetTable.below t.place (way t.mask g N))) ∧
    (t.put (way t.mask g N)).1.mask = t.mask ∧ (t.put (way t.mask g N)).1.led = t.led ∧ (t.put (way t.mask g N)).1.plain = t.plain ∧ (t.put (way t.mask g N)).1.moves = t.moves ∧ (t.put (way t.mask g N)).1.finger = t.finger ∧
    (t.put (way t.mask g N)).1.fill = gs.length + 1 := by
  have yin := way_in t.mask g N
  obtain ⟨y, ey⟩ : ∃ y, way t.mask g N = y := ⟨_, rfl⟩
  rw [ey] at out yin ⊢
  obtain ⟨cut, _, _⟩ := below_cut T.ris y
  have lenp : t.place.toList.length = gs.length := by rw [Array.length_toList, T.sz]
  have bp : SetTable.below t.place y ≤ t.place.toList.length := by rw [Array.length_toList]; exact cut
  have bg : SetTable.below t.place y ≤ gs.length := by omega
  have notin : t.place[SetTable.below t.place y]? ≠ some y := fun z => out (List.mem_of_getElem? ((Array.getElem?_toList ..).trans z))
  have laid := put_place t y
  have many : (t.put y).1.place.size = gs.length + 1 := by rw [← Array.length_toList, laid, len_ins _ bp, lenp]
  have stays : ∀ {z : Nat}, z ∈ t.place.toList → z ∈ (t.put y).1.place.toList := fun {z} hz => by
    rw [laid]
    exact mem_ins.mpr (.inr hz)
  refine ⟨rfl, bg, ?_, rfl, rfl, rfl, rfl, rfl, ?_⟩
  · refine { ris := ris_insert T.ris notin, dm := put_dm T.dm y, sz := by rw [len_ins _ bg]; exact many, mok := T.mok, bd := fun z hz => ?_, reach := fun n h z e1 e2 => ?_ }
    · rw [laid] at hz
      rcases mem_ins.mp hz with c | c
      · rw [c]; exact yin
      · exact T.bd z c
    · rw [tins_get gs bg] at e1
      rw [laid, tins_get _ bp] at e2
      have more : ∀ {n' : Nat}, gs[n']? = some h → t.place.toList[n']? = some z → ∃ c, way t.mask h c = z ∧ ∀ d, d < c → way t.mask h d ∈ (t.put y).1.place.toList := fun q1 q2 => by
        obtain ⟨c, c1, c2⟩ := T.reach _ h z q1 q2
        exact ⟨c, c1, fun d hd => stays (c2 d hd)⟩
      by_cases lt : n < SetTable.below t.place y
      · rw [if_pos lt] at e1 e2
        exact more e1 e2
      · rw [if_neg lt] at e1 e2
        by_cases eq : n = SetTable.below t.place y
        · rw [if_pos eq] at e1 e2
          obtain rfl : g = h := Option.some.inj e1
          obtain rfl : y = z := Option.some.inj e2
          exact ⟨N, ey, fun d hd => stays (full d hd)⟩
        · rw [if_neg eq] at e1 e2
          exact more e1 e2
  · unfold SetTable.fill
    rw [many, put_dm T.dm y]
    rfl
end
/-! ### such a table laid anew -/
theorem freeW {m : Nat} (W : MaskW m) (ow : Array (Option Nat)) (g : Int) {y : Nat} (hy : y ≤ m) (fy : oAt ow y = none) :
    ∃ N, SetTable.layClean.free m ow (SetTable.turns m) (SetTable.bits g % (m + 1)) (SetTable.bits g) = some (way m g N) ∧ oAt ow (way m g N) = none ∧ ∀ d, d < N → oAt ow (way m g d) ≠ none := by
  obtain ⟨n, hn, e⟩ := W.run g hy
  obtain ⟨Z, eZ⟩ : ∃ Z, L2.off m (SetTable.bits g % (m + 1)) (SetTable.bits g) n = Z := ⟨_, rfl⟩
  have wZ : way m g Z = y := by
    rw [← eZ]
    show (nth m (runAt m (SetTable.bits g % (m + 1)) (SetTable.bits g)) (L2.off m _ _ n)).j = y
    rw [nth_off, itL_run]
    exact e
  obtain ⟨N, a1, a2, a3⟩ := st_least (p := fun c => oAt ow (way m g c) = none) Z (by rw [wZ]; exact fy)
  refine ⟨N, free_spec m ow (SetTable.turns m) n _ _ N (by show n < m + 15; omega) (by rw [eZ]; exact a1) (fun d hd => ?_) ?_, a2, a3⟩
  · cases q : oAt ow (nth m (runAt m (SetTable.bits g % (m + 1)) (SetTable.bits g)) d).j with
    | some _ => rfl
    | none => exact absurd q (a3 d hd)
  · have q : oAt ow (nth m (runAt m (SetTable.bits g % (m + 1)) (SetTable.bits g)) N).j = none := a2
    rw [q]
    rfl
theorem ownW {m : Nat} (W : MaskW m) {past : List Int} {ow : Array (Option Nat)} (O : Own m past ow) (few : past.length ≤ m) (g : Int) :
    ∃ y, SetTable.layClean.free m ow (SetTable.turns m) (SetTable.bits g % (m + 1)) (SetTable.bits g) = some y ∧ Own m (past ++ [g]) (ow.setIfInBounds y (some past.length)) := by
  obtain ⟨us, lus, all⟩ := O.ps
  obtain ⟨u, hu, nu⟩ := st_missing us (m + 1) (by omega)
  have fu : oAt ow u = none := Classical.not_not.mp fun z => nu (all u (by omega) z)
  obtain ⟨N, f1, f2, f3⟩ := freeW W ow g (Nat.lt_succ_iff.mp hu) fu
  have yin := way_in m g N
  obtain ⟨y, ey⟩ : ∃ y, way m g N = y := ⟨_, rfl⟩
  rw [ey] at f1 f2 yin
  have same := oAt_set_self (owner := ow) (some past.length) (show y < ow.size by rw [O.sz]; omega)
  have keep : ∀ {z : Nat}, oAt ow z ≠ none → oAt (ow.setIfInBounds y (some past.length)) z ≠ none := fun {z} hz => by
    by_cases c : z = y
    · rw [c, same]; simp
    · rw [oAt_set_ne _ c]; exact hz
  have lp : (past ++ [g]).length = past.length + 1 := by simp
  refine ⟨y, f1, { sz := by rw [Array.size_setIfInBounds]; exact O.sz, at_ := fun z k hz e => ?_, all := fun k hk => ?_, ps := ⟨y :: us, by rw [List.length_cons, lus, lp], fun z hz e => ?_⟩ }⟩
  · by_cases c : z = y
    · rw [c, same] at e
      obtain rfl : past.length = k := Option.some.inj e
      exact ⟨g, N, by simp, by rw [ey, c], fun d hd => keep (f3 d hd)⟩
    · rw [oAt_set_ne _ c] at e
      obtain ⟨h, d, b1, b2, b3⟩ := O.at_ z k hz e
      exact ⟨h, d, by rw [List.getElem?_append_left (List.getElem?_eq_some_iff.mp b1).1]; exact b1, b2, fun d' hd' => keep (b3 d' hd')⟩
  · by_cases c : k < past.length
    · obtain ⟨z, hz, e⟩ := O.all k c
      refine ⟨z, hz, ?_⟩
      rw [oAt_set_ne _ fun q => by rw [q, f2] at e; cases e]
      exact e
    · obtain rfl : k = past.length := by omega
      exact ⟨y, yin, same⟩
  · by_cases c : z = y
    · exact c ▸ List.mem_cons_self
    · rw [oAt_set_ne _ c] at e
      exact List.mem_cons_of_mem _ (all z hz e)
theorem foldW {m : Nat} (W : MaskW m) : ∀ (todo past : List Int) (ow : Array (Option Nat)), Own m past ow → past.length + todo.length ≤ m →
    ∃ ow', todo.foldl (stepF m) (some (ow, past.length)) = some (ow', (past ++ todo).length) ∧ Own m (past ++ todo) ow'
  | [], past, ow, O, _ => ⟨ow, by simp, by simpa using O⟩
  | g :: todo, past, ow, O, few => by
    rw [List.length_cons] at few
    obtain ⟨y, f1, O1⟩ := ownW W O (by omega) g
    obtain ⟨ow', f2, O2⟩ := foldW W todo (past ++ [g]) _ O1 (by simp; omega)
    rw [List.append_assoc, List.singleton_append] at f2 O2
    refine ⟨ow', ?_, O2⟩
    rw [List.foldl_cons, stepF_some f1, ← f2]
    simp
theorem layW {m : Nat} (W : MaskW m) {gs : Array Int} (few : gs.size ≤ m) : ∃ ow, SetTable.layClean m gs = some ow ∧ Own m gs.toList ow := by
  obtain ⟨ow, f, O⟩ := foldW W gs.toList [] _ (Own.init m) (by simpa using few)
  refine ⟨ow, ?_, by simpa using O⟩
  rw [layClean_eq, show ((0 : Nat)) = ([] : List Int).length from rfl, f]
  rfl
theorem relaidW (t : SetTable) {gs : Array Int} {wish M : Nat} (size : SetTable.sizeAbove wish - 1 = M) (W : MaskW M) (few : gs.size ≤ M) :
    ∃ t2 order, t.relaid gs wish = some (t2, order) ∧ order.toList.Perm (List.range gs.size) ∧ TabW t2 (order.toList.map fun n => gs.getD n 0) ∧ t2.mask = M ∧ t2.led = t.led ∧ t2.plain = t.plain ∧ t2.dummies = #[] := by
  obtain ⟨ow, f, O⟩ := layW W few
  obtain ⟨live, elive⟩ : ∃ live, liveOf M ow = live := ⟨_, rfl⟩
  have mem : ∀ {y k : Nat}, (y, k) ∈ live ↔ y ≤ M ∧ oAt ow y = some k := fun {y k} => by rw [← elive]; exact mem_live O.sz
  have up : Ris (live.map (·.1)) := by
    rw [← elive]
    exact (ris_live (fun y => ow.getD y none) (List.range (M + 1)) List.pairwise_lt_range).1
  have once : (live.map (·.1)).Nodup := List.Pairwise.imp (fun h => Nat.ne_of_lt h) up
  have many : live.length = gs.size := by
    refine Nat.le_antisymm ?_ ?_
    · obtain ⟨us, lus, all⟩ := O.ps
      have z := nat_nodup_len (live.map (·.1)) us once fun y hy => by
        obtain ⟨⟨y', k⟩, hq, rfl⟩ := List.mem_map.mp hy
        obtain ⟨b1, b2⟩ := mem.mp hq
        exact all y' b1 (by rw [b2]; simp)
      rw [List.length_map, lus, Array.length_toList] at z
      exact z
    · have z := nat_nodup_len (List.range gs.size) (live.map (·.2)) List.nodup_range fun k hk => by
        obtain ⟨y, b1, b2⟩ := O.all k (by rw [Array.length_toList]; exact List.mem_range.mp hk)
        exact List.mem_map.mpr ⟨(y, k), mem.mpr ⟨b1, b2⟩, rfl⟩
      rw [List.length_map, List.length_range] at z
      exact z
  have made : t.relaid gs wish = some (tabOf t M ow, (live.map (·.2)).toArray) := by
    rw [relaid_eq, size, f, ← elive]
    rfl
  have place : (tabOf t M ow).place.toList = live.map (·.1) := by rw [← elive]; rfl
  refine ⟨tabOf t M ow, (live.map (·.2)).toArray, made, ?_, ?_, rfl, rfl, rfl, rfl⟩
  · refine perm_range gs.size _ (by simpa using many) fun k hk => ?_
    obtain ⟨y, b1, b2⟩ := O.all k (by rw [Array.length_toList]; exact hk)
    exact List.mem_map.mpr ⟨(y, k), mem.mpr ⟨b1, b2⟩, rfl⟩
  · refine { ris := by rw [place]; exact up, dm := rfl, sz := by rw [← Array.length_toList, place]; simp, mok := W, bd := fun y hy => ?_, reach := fun n g y e1 e2 => ?_ }
    · rw [place] at hy
      obtain ⟨⟨y', k⟩, hq, rfl⟩ := List.mem_map.mp hy
      exact (mem.mp hq).1
    · rw [place, List.getElem?_map] at e2
      have e1' : ((live.map (·.2)).map fun n => gs.getD n 0)[n]? = some g := e1
      rw [List.getElem?_map, List.getElem?_map] at e1'
      obtain ⟨⟨y', k⟩, q, rfl⟩ := Option.map_eq_some_iff.mp e2
      rw [q] at e1'
      have eg : gs.getD k 0 = g := Option.some.inj e1'
      obtain ⟨b1, b2⟩ := mem.mp (List.mem_of_getElem? q)
      obtain ⟨h, c, c1, c2, c3⟩ := O.at_ y' k b1 b2
      have eh : gs.getD k 0 = h := by
        rw [Array.getD_eq_getD_getElem?, ← Array.getElem?_toList, c1]
        rfl
      obtain rfl : h = g := eh.symm.trans eg
      refine ⟨c, c2, fun d hd => ?_⟩
      rw [place]
      show way M h d ∈ live.map (·.1)
      cases z : oAt ow (way M h d) with
      | none => exact absurd z (c3 d hd)
      | some k2 => exact List.mem_map.mpr ⟨(way M h d, k2), mem.mpr ⟨way_in M h d, z⟩, rfl⟩
theorem size_308 : SetTable.sizeAbove (SetTable.grown 77) = 512 := by decide +kernel
/-! ### keys that are tuples of numbers, nested: what a search among them asks -/
mutual
def wordless : NestedKey → Bool
  | .none => true
  | .num _ => true
  | .text _ => false
  | .tup ks => wordlessAll ks
def wordlessAll : List NestedKey → Bool
  | [] => true
  | k :: ks => wordless k && wordlessAll ks
end
section
variable {P : Program} {w : World}
/-- v is of no class statement, n levels down -/
def Plainly (P : Program) (w : World) (n : Nat) (s : Shared) (v : Value) : Prop := ∀ (A : Around) (E : Value → Shared → Prop) (Q : Bool → Shared → Prop), Q false s → wpAny (model P w) A (ofAClassStatement n v) Q E s
/-- v's hash goes by its value -/
def ByVal (P : Program) (w : World) (n : Nat) (s : Shared) (v : Value) : Prop := ∀ (A : Around) (E : Value → Shared → Prop) (Q : Bool → Shared → Prop), Q true s → wpAny (model P w) A (hashByValue n v) Q E s
mutual
theorem plainly_key : ∀ (k : NestedKey) (v : Value) (n : Nat) (s : Shared), NestedIs s.heap k v → k.depth ≤ n → Plainly P w n s v
  | .none, _, n, s, x, _ => by
    cases x
    intro A E Q q
    have e : ofAClassStatement n .none = pure false := by cases n <;> rfl
    rw [e]
    exact wpAny_pure q
  | .num i, _, n, s, x, _ => by
    intro A E Q q
    cases x with
    | @bool b _ _ =>
      have e : ofAClassStatement n (.bool b) = pure false := by cases n <;> rfl
      rw [e]
      exact wpAny_pure q
    | int _ t =>
      have e : ofAClassStatement n (.int i t) = pure false := by cases n <;> rfl
      rw [e]
      exact wpAny_pure q
  | .text y, _, n, s, x, _ => by
    intro A E Q q
    cases x with
    | text _ t =>
      have e : ofAClassStatement n (.str y t) = pure false := by cases n <;> rfl
      rw [e]
      exact wpAny_pure q
  | .tup ks, _, n, s, x, hn => by
    intro A E Q q
    cases x with
    | @tup a o vs m _ g1 g2 g3 g4 =>
      have hn' : NestedKey.depthAll ks + 1 ≤ n := hn
      obtain ⟨n, rfl⟩ : ∃ j, n = j + 1 := ⟨n - 1, by omega⟩
      have each := plainly_keys ks vs.toList n s g4 (by omega)
      unfold ofAClassStatement
      refine wpAny_bind (wpAny_typeOf (⟨o, g1, g2⟩ : s.TypeIs (.ref a) "tuple") ?_)
      dsimp only
      have tt : (("tuple" : String) == "tuple") = true := by decide
      simp only [tt, if_true, Bool.not_true, Bool.false_eq_true, if_false]
      try refine wpAny_bind (wpAny_pure ?_)
      try simp only [Bool.not_true, Bool.false_eq_true, if_false]
      show wpAny _ _ (seqItems? (.ref a) >>= _) _ _ s
      refine wpAny_bind (wpAny_seqItems g1 g3 ?_)
      dsimp only
      refine wpAny_bind (show wpAny _ _ (forIn vs _ _) _ _ s from ?_)
      rw [← Array.forIn_toList]
      refine wpAny_forIn_list _ (fun l z s1 => z.1 = none ∧ s1 = s ∧ ∀ u ∈ l, Plainly P w n s u) _ (fun u l z s1 y => ?_) (fun z s1 y => ?_) _ _ ⟨rfl, rfl, each⟩
      · obtain ⟨_, rfl, all⟩ := y
        refine wpAny_bind (all u List.mem_cons_self _ _ _ ?_)
        simp only [Bool.false_eq_true, if_false]
        exact wpAny_pure ⟨rfl, rfl, fun v hv => all v (List.mem_cons_of_mem _ hv)⟩
      · obtain ⟨z1, z2⟩ := z
        obtain ⟨e, rfl, _⟩ := y
        simp only at e
        subst e
        exact wpAny_pure q
theorem plainly_keys : ∀ (ks : List NestedKey) (vs : List Value) (n : Nat) (s : Shared), NestedAll s.heap ks vs → NestedKey.depthAll ks ≤ n → ∀ v ∈ vs, Plainly P w n s v
  | [], _, n, s, x, _, v, hv => by cases x; cases hv
  | k :: ks, _, n, s, x, hn, v, hv => by
    cases x with
    | cons x1 x2 =>
      have hn' : max k.depth (NestedKey.depthAll ks) ≤ n := hn
      rcases List.mem_cons.mp hv with rfl | hv
      · exact plainly_key k _ n s x1 (by omega)
      · exact plainly_keys ks _ n s x2 (by omega) v hv
end
mutual
theorem byVal_key : ∀ (k : NestedKey) (v : Value) (n : Nat) (s : Shared), NestedIs s.heap k v → k.depth ≤ n → wordless k = true → ByVal P w n s v
  | .none, _, n, s, x, _, _ => by
    cases x
    intro A E Q q
    have e : hashByValue n .none = pure true := by cases n <;> rfl
    rw [e]
    exact wpAny_pure q
  | .num i, _, n, s, x, _, _ => by
    intro A E Q q
    cases x with
    | @bool b _ _ =>
      have e : hashByValue n (.bool b) = pure true := by cases n <;> rfl
      rw [e]
      exact wpAny_pure q
    | int _ t =>
      have e : hashByValue n (.int i t) = pure true := by cases n <;> rfl
      rw [e]
      exact wpAny_pure q
  | .text y, _, n, s, x, _, h => by cases h
  | .tup ks, _, n, s, x, hn, h => by
    intro A E Q q
    cases x with
    | @tup a o vs m _ g1 g2 g3 g4 =>
      have hn' : NestedKey.depthAll ks + 1 ≤ n := hn
      obtain ⟨n, rfl⟩ : ∃ j, n = j + 1 := ⟨n - 1, by omega⟩
      have each := byVal_keys ks vs.toList n s g4 (by omega) h
      unfold hashByValue
      refine wpAny_bind (wpAny_specialOf (⟨o, g1, g2⟩ : s.TypeIs (.ref a) "tuple") F.slot_tuple_hash.lookup ?_)
      show wpAny _ _ (seqItems? (.ref a) >>= _) _ _ s
      refine wpAny_bind (wpAny_seqItems g1 g3 ?_)
      dsimp only
      refine wpAny_bind (show wpAny _ _ (forIn vs _ _) _ _ s from ?_)
      rw [← Array.forIn_toList]
      refine wpAny_forIn_list _ (fun l z s1 => z.1 = none ∧ s1 = s ∧ ∀ u ∈ l, ByVal P w n s u) _ (fun u l z s1 y => ?_) (fun z s1 y => ?_) _ _ ⟨rfl, rfl, each⟩
      · obtain ⟨_, rfl, all⟩ := y
        refine wpAny_bind (all u List.mem_cons_self _ _ _ ?_)
        simp only [Bool.not_true, Bool.false_eq_true, if_false]
        exact wpAny_pure ⟨rfl, rfl, fun v hv => all v (List.mem_cons_of_mem _ hv)⟩
      · obtain ⟨z1, z2⟩ := z
        obtain ⟨e, rfl, _⟩ := y
        simp only at e
        subst e
        exact wpAny_pure q
theorem byVal_keys : ∀ (ks : List NestedKey) (vs : List Value) (n : Nat) (s : Shared), NestedAll s.heap ks vs → NestedKey.depthAll ks ≤ n → wordlessAll ks = true → ∀ v ∈ vs, ByVal P w n s v
  | [], _, n, s, x, _, _, v, hv => by cases x; cases hv
  | k :: ks, _, n, s, x, hn, h, v, hv => by
    cases x with
    | cons x1 x2 =>
      have hn' : max k.depth (NestedKey.depthAll ks) ≤ n := hn
      have h' : wordless k = true ∧ wordlessAll ks = true := by simpa only [wordlessAll, Bool.and_eq_true] using h
      rcases List.mem_cons.mp hv with rfl | hv
      · exact byVal_key k _ n s x1 (by omega) h'.1
      · exact byVal_keys ks _ n s x2 (by omega) h'.2 v hv
end
/-- at b stands the key k -/
structure KeyAt (h : Heap) (k : NestedKey) (b : Addr) : Prop where
  is : NestedIs h k (.ref b)
  low : k.depth ≤ 8
  nums : wordless k = true
theorem KeyAt.inj {h : Heap} {j k : NestedKey} {b : Addr} (x : KeyAt h j b) (y : KeyAt h k b) : j = k := NestedIs.inj _ _ _ x.is y.is
theorem KeyAt.old {g h : Heap} {k : NestedKey} {b : Addr} (x : KeyAt g k b) (st : ∀ c o, g.get? c = some o → h.get? c = some o) : KeyAt h k b := ⟨NestedIs.at (fun c o _ _ e _ => st c o e) k _ x.is, x.low, x.nums⟩
theorem KeyAt.but {a : Addr} {g h : Heap} {k : NestedKey} {b : Addr} {o : Obj} {es : Array (Int × Value)} {ep : Nat} {t : SetTable} (x : KeyAt g k b) (at1 : g.get? a = some o) (dat : o.data = .set es ep t) (sb : Heap.SameBut a g h) : KeyAt h k b :=
  ⟨NestedIs.at (fun c u vs n e1 e2 => by
    refine (sb.2 c fun z => ?_).trans e1
    rw [z, at1] at e1
    cases e1
    rw [dat] at e2
    cases e2) k _ x.is, x.low, x.nums⟩
/-- a search among such keys shows nothing -/
theorem unseen {A : Around} {E : Value → Shared → Prop} {s : Shared} {k : NestedKey} {b : Addr} {Q : Bool → Shared → Prop} (hk : KeyAt s.heap k b) {ys : List Value} (hy : ∀ y ∈ ys, ∃ j c, y = Value.ref c ∧ KeyAt s.heap j c) (q : Q false s) :
    wpAny (model P w) A (searchCouldBeSeen (.ref b) ys) Q E s := by
  unfold searchCouldBeSeen
  refine wpAny_bind (wpAny_forIn_list _ (fun l z s1 => z.1 = none ∧ s1 = s ∧ ∀ y ∈ l, ∃ j c, y = Value.ref c ∧ KeyAt s.heap j c) _ (fun u l z s1 y => ?_) (fun z s1 y => ?_) _ _ ⟨rfl, rfl, hy⟩)
  · obtain ⟨_, rfl, all⟩ := y
    obtain ⟨j, c, rfl, hc⟩ := all u List.mem_cons_self
    have more : ∀ y ∈ l, ∃ j c, y = Value.ref c ∧ KeyAt s1.heap j c := fun v hv => all v (List.mem_cons_of_mem _ hv)
    dsimp only
    cases same : (b == c || (carriedByValue (.ref b) && carriedByValue (.ref c))) with
    | true => exact wp_if_pos rfl (wpAny_pure ⟨rfl, rfl, more⟩)
    | false =>
      refine wp_if_neg (by decide) ?_
      refine wpAny_bind (quiet_key k _ 8 s1 hk.is hk.low _ _ _ ?_)
      simp only [Bool.not_true, Bool.false_eq_true, if_false]
      refine wpAny_bind (quiet_key j _ 8 s1 hc.is hc.low _ _ _ ?_)
      simp only [Bool.not_true, Bool.false_eq_true, if_false]
      refine wpAny_bind (plainly_key k _ 8 s1 hk.is hk.low _ _ _ ?_)
      simp only [Bool.false_eq_true, if_false]
      refine wpAny_bind (plainly_key j _ 8 s1 hc.is hc.low _ _ _ ?_)
      simp only [Bool.false_eq_true, if_false]
      exact wpAny_pure ⟨rfl, rfl, more⟩
  · obtain ⟨z1, z2⟩ := z
    obtain ⟨e, rfl, _⟩ := y
    simp only at e
    subst e
    exact wpAny_pure q
end
/-! ### sets of such keys: looking one up, putting one in -/
abbrev stepAt (m : Nat) (g : Int) (c : Nat) : SetTable.Probe := nth m (runAt m (SetTable.bits g % (m + 1)) (SetTable.bits g)) c
theorem stepAt_more (m : Nat) (g : Int) (c q : Nat) : nth m (stepAt m g c) q = stepAt m g (c + q) := (nth_add m c _ q).symm
theorem adv_dummy {m : Nat} {p : SetTable.Probe} (h : p.dummy = none) : (adv m p).dummy = none := by
  unfold adv
  split <;> exact h
theorem nth_dummy {m : Nat} : ∀ (c : Nat) {p : SetTable.Probe}, p.dummy = none → (nth m p c).dummy = none
  | 0, _, h => h
  | c + 1, _, h => nth_dummy c (adv_dummy h)
def rowsN (w : World) (L : List (NestedKey × Addr)) : List (Int × Value) := L.map fun p => (p.1.hash w, Value.ref p.2)
structure SetN (w : World) (h : Heap) (a : Addr) (L : List (NestedKey × Addr)) (es : Array (Int × Value)) (ep : Nat) (t : SetTable) : Prop where
  obj : ∃ o, h.get? a = some o ∧ o.ExactSet ∧ o.data = .set es ep t
  rows : es.toList = rowsN w L
  tab : TabW t (L.map fun p => p.1.hash w)
  one : (L.map Prod.fst).Nodup
  keys : ∀ p ∈ L, KeyAt h p.1 p.2
  plain : t.plain = true
  seen : w.params.followText "set-order" = true ∨ t.led = true
  room : L.length * 5 < t.mask * 3
  few : L.length < 300
section
variable {P : Program} {w : World} {A : Around} {E : Value → Shared → Prop} {s : Shared} {a : Addr} {L : List (NestedKey × Addr)} {es : Array (Int × Value)} {ep : Nat} {t : SetTable}
theorem SetN.many (R : SetN w s.heap a L es ep t) : es.size = L.length := by
  have q := congrArg List.length R.rows
  unfold rowsN at q
  simpa using q
theorem SetN.taken (R : SetN w s.heap a L es ep t) : t.place.size = L.length := by
  have q := R.tab.sz
  rwa [List.length_map] at q
theorem SetN.fit (R : SetN w s.heap a L es ep t) : t.fits es.size = true := by
  have q1 := R.taken
  have q2 := R.many
  have q3 := R.room
  have q4 : t.dummies.size = 0 := by rw [R.tab.dm]; rfl
  unfold SetTable.fits SetTable.fill
  simp only [Bool.and_eq_true, beq_iff_eq, decide_eq_true_eq]
  omega
theorem SetN.row (R : SetN w s.heap a L es ep t) {i : Nat} {p : NestedKey × Addr} (e : L[i]? = some p) : es[i]? = some (p.1.hash w, Value.ref p.2) := by
  have q : es.toList[i]? = (rowsN w L)[i]? := by rw [R.rows]
  unfold rowsN at q
  rw [List.getElem?_map, e] at q
  simpa using q
theorem SetN.stands (R : SetN w s.heap a L es ep t) : ¬ t.gaveWay = true := by
  have q := R.tab.mok.odd
  unfold SetTable.gaveWay
  rw [q]
  decide
theorem SetN.at (R : SetN w s.heap a L es ep t) {i j : Nat} (e : t.place.toList[i]? = some j) : ∃ p, L[i]? = some p := by
  have q1 := R.taken
  have q2 := (List.getElem?_eq_some_iff.mp e).1
  rw [Array.length_toList] at q2
  exact ⟨_, List.getElem?_eq_getElem (by omega)⟩
/-- looking up, from the c-th step on -/
theorem seek_from (R : SetN w s.heap a L es ep t) {x : Addr} {k : NestedKey} (hx : KeyAt s.heap k x) (hu : A.units + 8 < cLine) {N : Nat} (lim : N < 10 * SetTable.turns t.mask) (free : way t.mask (k.hash w) N ∉ t.place.toList)
    (full : ∀ c, c < N → way t.mask (k.hash w) c ∈ t.place.toList) {Q : SetFound → Shared → Prop} (yes : k ∈ L.map Prod.fst → Q (.there none) s) (no : k ∉ L.map Prod.fst → Q (.free (way t.mask (k.hash w) N) false) s) :
    ∀ (f c : Nat) (stand : Option SetTable.Probe), stand.getD (t.probeStart (k.hash w)) = stepAt t.mask (k.hash w) c → c ≤ N → N - c < f → (∀ (i : Nat) p, L[i]? = some p → p.1 = k → ∃ d, c ≤ d ∧ d < N ∧ t.place.toList[i]? = some (way t.mask (k.hash w) d)) →
      wpAny (model P w) A (setSearchFrom a (.ref x) (k.hash w) true f stand) Q E s
  | 0, c, stand, _, _, lt, _ => absurd lt (Nat.not_lt_zero _)
  | f + 1, c, stand, at0, le, lt, ahead' => by
    obtain ⟨o, at1, exact1, dat⟩ := R.obj
    rw [setSearchFrom_succ]
    refine wpAny_bind (wpAny_setState_of at1 dat R.fit ?_)
    dsimp only
    refine wp_if_neg R.stands ?_
    try refine wpAny_bind (wpAny_pure ?_)
    have jAt : ∀ q, (nth t.mask (stepAt t.mask (k.hash w) c) q).j = way t.mask (k.hash w) (c + q) := fun q => congrArg SetTable.Probe.j (stepAt_more _ _ c q)
    have hashOf : ∀ (i : Nat) p, L[i]? = some p → (fun i => (es[i]?.map (·.1)).getD 0) i = p.1.hash w := fun i p e => by
      show (es[i]?.map (·.1)).getD 0 = p.1.hash w
      rw [R.row e]
      rfl
    have told := go_spec t R.tab.ris R.tab.dm (fun i => (es[i]?.map (·.1)).getD 0) (k.hash w) (10 * SetTable.turns t.mask) (N - c) (stepAt t.mask (k.hash w) c) (nth_dummy c rfl) (by omega)
      (fun q lq => by rw [jAt]; exact full _ (by omega)) (by rw [jAt, show c + (N - c) = N by omega]; exact free)
    have asked : t.probe (fun i => (es[i]?.map (·.1)).getD 0) (k.hash w) (stand.getD (t.probeStart (k.hash w))) = SetTable.probe.go t (fun i => (es[i]?.map (·.1)).getD 0) (k.hash w) (10 * SetTable.turns t.mask) (stepAt t.mask (k.hash w) c) := by rw [at0]; rfl
    rw [asked]
    rcases told with ⟨q, i, lq, hi, hh, none', ans⟩ | ⟨none', ans⟩
    · rw [ans]
      dsimp only
      rw [jAt] at hi
      obtain ⟨p, hp⟩ := R.at hi
      have mem := List.mem_of_getElem? hp
      have live := slot_live R.tab.ris hi
      have behind' : wpAny (model P w) A (searchRest a (.ref x) (k.hash w) true f es t (way t.mask (k.hash w) (c + q)) i (nth t.mask (stepAt t.mask (k.hash w) c) (q + 1))) Q E s := by
        unfold searchRest
        rw [R.row hp]
        dsimp only
        refine wpAny_bind (wpAny_holding (eqAt_key p.1 k A s _ _ (R.keys p mem).is hx.is (by have := hx.low; omega) _ _ _ _ ?_))
        refine wpAny_bind (wpAny_setState_of at1 dat R.fit ?_)
        dsimp only
        by_cases pk : p.1 = k
        · have b1 : NestedKey.beq p.1 k = true := by rw [pk]; exact NestedKey.beq_self k
          refine wp_if_pos (by rw [b1]; rfl) (wpAny_pure (yes ?_))
          exact List.mem_map.mpr ⟨p, mem, pk⟩
        · have b1 : NestedKey.beq p.1 k = false := by
            cases z : NestedKey.beq p.1 k with
            | false => rfl
            | true => exact absurd (NestedKey.eq_of_beq _ _ z) pk
          refine wp_if_neg (by rw [b1]; decide) ?_
          try refine wpAny_bind (wpAny_pure ?_)
          rw [sameMem]
          dsimp only
          simp only [if_true, live, R.row hp]
          refine wpAny_bind (wpAny_isSame_ref_self (wpAny_bind (wpAny_pure ?_)))
          simp only [if_true]
          refine wp_if_neg (by rw [b1]; decide) ?_
          rw [stepAt_more]
          refine seek_from R hx hu lim free full yes no f (c + (q + 1)) _ rfl (by omega) (by omega) fun i0 p0 e0 pk0 => ?_
          obtain ⟨d, d1, d2, d3⟩ := ahead' i0 p0 e0 pk0
          refine ⟨d, ?_, d2, d3⟩
          by_cases dl : d < c + q
          · refine absurd ((hashOf i0 p0 e0).trans (by rw [pk0])) (none' (d - c) i0 (by omega) ?_)
            rw [jAt, show c + (d - c) = d by omega]
            exact d3
          · by_cases de : d = c + q
            · rw [de] at d3
              have z := slot_live R.tab.ris d3
              rw [live] at z
              injection z with z
              rw [← z, hp] at e0
              exact absurd ((congrArg Prod.fst (Option.some.inj e0)).trans pk0) pk
            · omega
      rw [jAt]
      by_cases hl : t.led = true
      · refine wp_if_neg (by rw [hl]; decide) ?_
        try refine wpAny_bind (wpAny_pure ?_)
        exact behind'
      · refine wp_if_pos (by simp [hl]) ?_
        refine wpAny_bind (unseen hx (fun y hy => ?_) ?_)
        · obtain ⟨e, he, rfl⟩ := List.mem_map.mp hy
          have h1 : e ∈ es.toList := by
            have h0 := he
            simp at h0
            simpa using h0.1
          rw [R.rows] at h1
          obtain ⟨p2, h2, rfl⟩ := List.mem_map.mp h1
          exact ⟨p2.1, p2.2, rfl, R.keys p2 h2⟩
        · refine wp_if_neg (by decide) ?_
          try refine wpAny_bind (wpAny_pure ?_)
          exact behind'
    · rw [ans]
      dsimp only
      rw [jAt, show c + (N - c) = N by omega]
      refine wpAny_pure (no fun hm => ?_)
      obtain ⟨p0, h0, pk0⟩ := List.mem_map.mp hm
      obtain ⟨i0, e0⟩ := List.mem_iff_getElem?.mp h0
      obtain ⟨d, d1, d2, d3⟩ := ahead' i0 p0 e0 pk0
      refine absurd ((hashOf i0 p0 e0).trans (by rw [pk0])) (none' (d - c) i0 (by omega) ?_)
      rw [jAt, show c + (d - c) = d by omega]
      exact d3
/-- looking up, as putting in does -/
theorem seek (R : SetN w s.heap a L es ep t) {x : Addr} {k : NestedKey} (hx : KeyAt s.heap k x) (hu : A.units + 8 < cLine) {Q : SetFound → Shared → Prop} (yes : k ∈ L.map Prod.fst → Q (.there none) s)
    (no : ∀ N, k ∉ L.map Prod.fst → way t.mask (k.hash w) N ∉ t.place.toList → (∀ c, c < N → way t.mask (k.hash w) c ∈ t.place.toList) → Q (.free (way t.mask (k.hash w) N) false) s) :
    wpAny (model P w) A (setSearch a (.ref x) (k.hash w) true) Q E s := by
  have ro := R.room
  obtain ⟨N, lim, free, full⟩ := R.tab.first (by rw [List.length_map]; omega) (k.hash w)
  have small : N < 100000 := by
    refine Nat.lt_of_lt_of_le lim ?_
    unfold SetTable.turns
    rcases R.tab.mok with e | e | e | e <;> rw [e] <;> decide
  unfold setSearch
  refine seek_from R hx hu lim free full yes (fun n => no N n free full) 100000 0 none rfl (Nat.zero_le _) (by omega) fun i p e pk => ?_
  have e1 : (L.map fun p => p.1.hash w)[i]? = some (k.hash w) := by rw [List.getElem?_map, e, ← pk]; rfl
  have tk := R.taken
  have li := (List.getElem?_eq_some_iff.mp e).1
  obtain ⟨j, e2⟩ : ∃ j, t.place.toList[i]? = some j := ⟨_, List.getElem?_eq_getElem (by rw [Array.length_toList]; omega)⟩
  obtain ⟨c, c1, c2⟩ := R.tab.before free e1 e2
  exact ⟨c, Nat.zero_le _, c1, by rw [e2, c2]⟩
end
/-! ### sets of such keys: one put in, the table laid anew -/
theorem picked {α β : Type} {g : Nat → Option α} {f : α → β} {d : Nat → β} : ∀ {l : List Nat}, (∀ i ∈ l, (g i).map f = some (d i)) → (l.filterMap g).map f = l.map d
  | [], _ => rfl
  | i :: l, h => by
    have h0 := h i List.mem_cons_self
    cases e : g i with
    | none => rw [e] at h0; cases h0
    | some x =>
      rw [e] at h0
      rw [List.filterMap_cons_some e, List.map_cons, List.map_cons, picked fun j hj => h j (List.mem_cons_of_mem _ hj), Option.some.inj h0]
theorem pick_all {α : Type} (L : List α) : ∀ n, n ≤ L.length → (List.range n).filterMap (fun i => L[i]?) = L.take n
  | 0, _ => rfl
  | n + 1, h => by
    rw [List.range_succ, List.filterMap_append, pick_all L n (by omega), List.take_add_one]
    congr 1
theorem rowsN_at {w : World} {L : List (NestedKey × Addr)} {es : Array (Int × Value)} (e : es.toList = rowsN w L) (i : Nat) : es[i]? = L[i]?.map fun p => (p.1.hash w, Value.ref p.2) := by
  have q : es.toList[i]? = (rowsN w L)[i]? := by rw [e]
  unfold rowsN at q
  rw [List.getElem?_map, Array.getElem?_toList] at q
  exact q
theorem rowsN_len {w : World} {L : List (NestedKey × Addr)} {es : Array (Int × Value)} (e : es.toList = rowsN w L) : es.size = L.length := by
  have q := congrArg List.length e
  unfold rowsN at q
  simpa using q
theorem reorder {w : World} {L : List (NestedKey × Addr)} {es : Array (Int × Value)} {order : Array Nat} (e : es.toList = rowsN w L) (pm : order.toList.Perm (List.range L.length)) :
    ∃ M, (order.filterMap (es[·]?)).toList = rowsN w M ∧ M.Perm L ∧ (M.map fun p => p.1.hash w) = order.toList.map fun i => (es.map (·.1)).getD i 0 := by
  refine ⟨order.toList.filterMap fun i => L[i]?, ?_, ?_, picked fun i hi => ?_⟩
  · have q : (order.filterMap (es[·]?)).toList = order.toList.filterMap fun i => es[i]? := by simp
    rw [q]
    unfold rowsN
    rw [List.map_filterMap]
    congr 1
    funext i
    exact rowsN_at e i
  · have q := pm.filterMap fun i => L[i]?
    rwa [pick_all L L.length (Nat.le_refl _), List.take_length] at q
  · have li : i < L.length := List.mem_range.mp (pm.mem_iff.mp hi)
    have q : (es.map (·.1))[i]? = some (L[i].1.hash w) := by
      rw [Array.getElem?_map, rowsN_at e, List.getElem?_eq_getElem li]
      rfl
    rw [List.getElem?_eq_getElem li, Array.getD_eq_getD_getElem?, q]
    rfl
section
variable {P : Program} {w : World} {A : Around} {E : Value → Shared → Prop} {s : Shared} {a : Addr} {L : List (NestedKey × Addr)} {es : Array (Int × Value)} {ep : Nat} {t : SetTable}
theorem lay_anew {o : Obj} (at1 : s.heap.get? a = some o) (exact1 : o.ExactSet) (dat : o.data = .set es ep t) (rows : es.toList = rowsN w L) (taken : t.place.size = es.size) (dm : t.dummies = #[]) (fits : es.size ≤ t.mask)
    (one : (L.map Prod.fst).Nodup) (keys : ∀ p ∈ L, KeyAt s.heap p.1 p.2) (pl : t.plain = true) (seen : w.params.followText "set-order" = true ∨ t.led = true) (few : L.length < 300) {wanted M : Nat}
    (size : SetTable.sizeAbove wanted - 1 = M) (mok : MaskW M) (top : SetTable.sizeAbove wanted ≤ 512) (room : L.length * 5 < M * 3) {Q : Unit → Shared → Prop}
    (q : ∀ h' L' es' ep' t', Heap.SameBut a s.heap h' → SetN w h' a L' es' ep' t' → L'.Perm L → Q () { s with heap := h' }) : wpAny (model P w) A (setRelay a wanted) Q E s := by
  have many := rowsN_len rows
  have fit : t.fits es.size = true := by
    have q4 : t.dummies.size = 0 := by rw [dm]; rfl
    unfold SetTable.fits SetTable.fill
    simp only [Bool.and_eq_true, beq_iff_eq, decide_eq_true_eq]
    omega
  obtain ⟨t2, order, e1, pm, T, em, el, epl, ed⟩ := relaidW t (gs := es.map (·.1)) (wish := wanted) size mok (by rw [Array.size_map, many]; omega)
  rw [Array.size_map, many] at pm
  obtain ⟨M2, r1, r2, r3⟩ := reorder rows pm
  rw [← r3] at T
  have many2 : (order.filterMap (es[·]?)).size = es.size := by rw [rowsN_len r1, r2.length_eq, many]
  rw [setRelay_eq]
  refine wpAny_bind (wpAny_setState_of at1 dat fit ?_)
  dsimp only
  refine wp_if_neg (by rw [sizeLine_eq]; omega) ?_
  try refine wpAny_bind (wpAny_pure ?_)
  rw [e1]
  dsimp only
  refine wpAny_bind (wp_if_neg (by rw [many2]; simp) ?_)
  try refine wpAny_bind (wpAny_pure ?_)
  refine wpAny_pure ?_
  dsimp only
  refine wpAny_storeSet_of at1 dat ?_ (by rw [many2, many, sizeLine_eq]; omega)
  have sb : Heap.SameBut a s.heap (s.heap.update a (Obj.putSet (order.filterMap (es[·]?)) t2)) := Heap.SameBut.update ..
  exact q _ M2 (order.filterMap (es[·]?)) (ep + 1) t2 sb ⟨⟨_, store_at at1 dat, ⟨exact1.1, exact1.2.1, exact1.2.2⟩, rfl⟩, r1, T, (r2.map Prod.fst).nodup_iff.mpr one, fun p hp => (keys p (r2.mem_iff.mp hp)).but at1 dat sb, by rw [epl]; exact pl,
    by rw [el]; exact seen, by rw [r2.length_eq, em]; exact room, by rw [r2.length_eq]; exact few⟩ r2
theorem put_in (R : SetN w s.heap a L es ep t) {x : Addr} {k : NestedKey} (hx : KeyAt s.heap k x) (hu : A.units + 8 < cLine) (more : L.length + 1 < 300) {Q : Bool → Shared → Prop}
    (q : ∀ b h' L' es' ep' t', Heap.SameBut a s.heap h' → SetN w h' a L' es' ep' t' → (k ∈ L.map Prod.fst → L' = L) → (k ∉ L.map Prod.fst → L'.Perm ((k, x) :: L)) → Q b { s with heap := h' }) :
    wpAny (model P w) A (setAddHashed a (.ref x) (k.hash w)) Q E s := by
  obtain ⟨o, at1, exact1, dat⟩ := R.obj
  have many := R.many
  have room := R.room
  unfold setAddHashed
  refine wpAny_holding ?_
  rw [show (100000 : Nat) = 99999 + 1 from rfl, setAddHashedIn_succ]
  refine wpAny_bind (wpAny_setState_of at1 dat R.fit ?_)
  dsimp only
  refine wp_if_neg (by simp [byScan, Value.scannable]) ?_
  try refine wpAny_bind (wpAny_pure ?_)
  refine wpAny_bind (seek R hx hu (fun hm => ?_) fun N hm free full => ?_)
  · dsimp only
    exact wpAny_pure (q false s.heap L es ep t (Heap.SameBut.refl a s.heap) R (fun _ => rfl) fun z => absurd hm z)
  dsimp only
  refine wpAny_bind (wpAny_setState_of at1 dat R.fit ?_)
  dsimp only
  obtain ⟨p1, p2, p3, p4, p5, p6, p7, p8, p9⟩ := R.tab.put free full
  have pl1 : (t.put (way t.mask (k.hash w) N)).1.plain = true := by rw [p6]; exact R.plain
  generalize t.put (way t.mask (k.hash w) N) = both at p1 p3 p4 p5 p6 p7 p8 p9 pl1 ⊢
  obtain ⟨t1, at2⟩ := both
  dsimp only at p1 p3 p4 p5 p6 p7 p8 p9 pl1 ⊢
  subst p1
  first
    | (refine wpAny_bind (wp_if_pos pl1 ?_); refine byVal_key k _ 8 s hx.is hx.low hx.nums _ _ _ ?_)
    | refine wp_if_pos pl1 (wpAny_bind (byVal_key k _ 8 s hx.is hx.low hx.nums _ _ _ ?_))
  simp only [if_true]
  generalize SetTable.below t.place (way t.mask (k.hash w) N) = b at p2 p3 ⊢
  have rows1 : (SetTable.insertAt es b (k.hash w, Value.ref x)).toList = rowsN w (L.take b ++ (k, x) :: L.drop b) := by
    rw [SetTable.toList_insertAt, R.rows]
    unfold rowsN
    rw [List.map_append, List.map_cons, List.map_take, List.map_drop]
  have pm : (L.take b ++ (k, x) :: L.drop b).Perm ((k, x) :: L) := by
    have z : (L.take b ++ (k, x) :: L.drop b).Perm ((k, x) :: (L.take b ++ L.drop b)) := List.perm_middle
    rwa [List.take_append_drop] at z
  have hashes1 : (L.take b ++ (k, x) :: L.drop b).map (fun p => p.1.hash w) = (L.map fun p => p.1.hash w).take b ++ k.hash w :: (L.map fun p => p.1.hash w).drop b := by
    rw [List.map_append, List.map_cons, List.map_take, List.map_drop]
  rw [← hashes1] at p3
  have one1 : ((L.take b ++ (k, x) :: L.drop b).map Prod.fst).Nodup := (pm.map Prod.fst).nodup_iff.mpr (List.nodup_cons.mpr ⟨hm, R.one⟩)
  have many1 := rowsN_len rows1
  have len1 := pm.length_eq
  rw [List.length_cons] at len1
  generalize SetTable.insertAt es b (k.hash w, Value.ref x) = es1 at rows1 many1 ⊢
  generalize L.take b ++ (k, x) :: L.drop b = L1 at pm rows1 p3 one1 many1 len1
  refine wpAny_bind (wpAny_storeSet_of at1 dat ?_ (by rw [many1, sizeLine_eq]; omega))
  have sb : Heap.SameBut a s.heap (s.heap.update a (Obj.putSet es1 t1)) := Heap.SameBut.update ..
  have at3 := store_at (es' := es1) (t' := t1) at1 dat
  generalize s.heap.update a (Obj.putSet es1 t1) = g at sb at3 ⊢
  have keys1 : ∀ p ∈ L1, KeyAt g p.1 p.2 := fun p hp => by
    rcases List.mem_cons.mp (pm.mem_iff.mp hp) with rfl | hp
    · exact hx.but at1 dat sb
    · exact (R.keys p hp).but at1 dat sb
  have seen1 : w.params.followText "set-order" = true ∨ t1.led = true := by rw [p5]; exact R.seen
  have fill1 := p9
  rw [List.length_map] at fill1
  have taken1 := p3.sz
  rw [List.length_map] at taken1
  cases full1 : t1.tooFull with
  | true =>
    first
      | refine wpAny_bind (wp_if_pos (by simp) ?_)
      | refine wp_if_pos (by simp) (wpAny_bind ?_)
    have over : (L.length + 1) * 5 ≥ t1.mask * 3 := by
      have z := full1
      unfold SetTable.tooFull at z
      rw [decide_eq_true_eq, fill1] at z
      exact z
    rw [many]
    have anew : ∀ M, SetTable.sizeAbove (SetTable.grown (L.length + 1)) - 1 = M → MaskW M → SetTable.sizeAbove (SetTable.grown (L.length + 1)) ≤ 512 → (L.length + 1) * 5 < M * 3 → es1.size ≤ t1.mask →
        wpAny (model P w) A (setRelay a (SetTable.grown (L.length + 1))) (fun _ s' => wpAny (model P w) A (pure true) Q E s') E { s with heap := g } := fun M z1 z2 z3 z4 z5 =>
      lay_anew (s := { s with heap := g }) at3 ⟨exact1.1, exact1.2.1, exact1.2.2⟩ rfl rows1 (by omega) p3.dm z5 one1 keys1 pl1 seen1 (by omega) z1 z2 z3 (by rw [len1]; exact z4) fun h2 L2 es2 ep2 t2 sb2 R2 pm2 =>
        wpAny_pure (q true h2 L2 es2 ep2 t2 (sb.trans sb2) R2 (fun z => absurd z hm) fun _ => pm2.trans pm)
    have which : (t.mask = 7 ∧ L.length = 4) ∨ (t.mask = 31 ∧ L.length = 18) ∨ (t.mask = 127 ∧ L.length = 76) := by
      rcases R.tab.mok with e | e | e | e
      · rw [p4, e] at over
        rw [e] at room
        exact .inl ⟨e, by omega⟩
      · rw [p4, e] at over
        rw [e] at room
        exact .inr (.inl ⟨e, by omega⟩)
      · rw [p4, e] at over
        rw [e] at room
        exact .inr (.inr ⟨e, by omega⟩)
      · rw [p4, e] at over
        omega
    rcases which with ⟨e1, e2⟩ | ⟨e1, e2⟩ | ⟨e1, e2⟩
    · exact anew 31 (by rw [e2, size_20]) (.inr (.inl rfl)) (by rw [e2, size_20]; decide) (by omega) (by omega)
    · exact anew 127 (by rw [e2, size_76]) (.inr (.inr (.inl rfl))) (by rw [e2, size_76]; decide) (by omega) (by omega)
    · exact anew 511 (by rw [e2, size_308]) (.inr (.inr (.inr rfl))) (by rw [e2, size_308]; decide) (by omega) (by omega)
  | false =>
    first
      | refine wp_if_neg (by simp) ?_
      | refine wpAny_bind (wp_if_neg (by simp) (wpAny_pure ?_))
    refine wpAny_pure (q true g L1 es1 (ep + 1) t1 sb ⟨⟨_, at3, ⟨exact1.1, exact1.2.1, exact1.2.2⟩, rfl⟩, rows1, p3, one1, keys1, pl1, seen1, ?_, by omega⟩ (fun z => absurd z hm) fun _ => pm)
    have z := full1
    unfold SetTable.tooFull at z
    rw [decide_eq_false_iff_not, fill1] at z
    omega
end
/-! ### set(list of such keys) -/
/-- what has come of the first i -/
structure GotN (ks : List (NestedKey × Addr)) (i : Nat) (L : List (NestedKey × Addr)) : Prop where
  sub : ∀ p ∈ L, p ∈ ks.take i
  all : ∀ p ∈ ks.take i, p.1 ∈ L.map Prod.fst
  len : L.length ≤ i
theorem take_more {α : Type} {l : List α} {i : Nat} {x : α} (h : l[i]? = some x) : l.take (i + 1) = l.take i ++ [x] := by
  rw [List.take_add_one, h]
  rfl
theorem GotN.next {ks L M : List (NestedKey × Addr)} {i : Nat} {x : NestedKey × Addr} (g : GotN ks i L) (h : ks[i]? = some x) (same : x.1 ∈ L.map Prod.fst → M = L) (new : x.1 ∉ L.map Prod.fst → M.Perm (x :: L)) : GotN ks (i + 1) M := by
  have tm := take_more h
  rcases Classical.em (x.1 ∈ L.map Prod.fst) with c | c
  · rw [same c]
    refine ⟨fun p hp => ?_, fun p hp => ?_, Nat.le_succ_of_le g.len⟩
    · rw [tm]
      exact List.mem_append.mpr (.inl (g.sub p hp))
    · rw [tm] at hp
      rcases List.mem_append.mp hp with z | z
      · exact g.all p z
      · rw [List.mem_singleton.mp z]
        exact c
  · have pm := new c
    refine ⟨fun p hp => ?_, fun p hp => ?_, ?_⟩
    · rw [tm]
      rcases List.mem_cons.mp (pm.mem_iff.mp hp) with z | z
      · exact List.mem_append.mpr (.inr (List.mem_singleton.mpr z))
      · exact List.mem_append.mpr (.inl (g.sub p z))
    · rw [(pm.map Prod.fst).mem_iff, List.map_cons, List.mem_cons]
      rw [tm] at hp
      rcases List.mem_append.mp hp with z | z
      · exact .inr (g.all p z)
      · exact .inl (by rw [List.mem_singleton.mp z])
    · have z := pm.length_eq
      have y := g.len
      rw [List.length_cons] at z
      omega
section
variable {P : Program} {w : World} {A : Around} {E : Value → Shared → Prop} {s : Shared}
theorem SetN.move {g h : Heap} {a : Addr} {L : List (NestedKey × Addr)} {es : Array (Int × Value)} {ep : Nat} {t : SetTable} (R : SetN w g a L es ep t) (ha : ∀ o, g.get? a = some o → h.get? a = some o) (keys : ∀ p ∈ L, KeyAt h p.1 p.2) : SetN w h a L es ep t := by
  obtain ⟨o, at1, z⟩ := R.obj
  exact { R with obj := ⟨o, ha o at1, z⟩, keys := keys }
theorem setN_new {h : Heap} {a : Addr} (e : h.get? a = some (noneYet w)) : SetN w h a [] #[] 0 (.fresh 0 0 (!w.params.followText "set-order")) where
  obj := ⟨_, e, ⟨rfl, rfl, rfl⟩, rfl⟩
  rows := rfl
  tab := { ris := List.Pairwise.nil, dm := rfl, sz := rfl, mok := .inl rfl, bd := fun x hx => (by cases hx), reach := fun i h j hi => (by simp at hi) }
  one := List.nodup_nil
  keys := fun p hp => (by cases hp)
  plain := rfl
  seen := by
    show _ ∨ (!w.params.followText "set-order") = true
    cases w.params.followText "set-order"
    · exact .inr rfl
    · exact .inl rfl
  room := by
    show 0 * 5 < 7 * 3
    decide
  few := Nat.zero_lt_succ _
theorem update_keys {I : Addr} {fp wr : List Addr} {G : Array GenState → Array GenState → Prop} {n : Nat} {Pv : Nat → Value → Prop} {St : Nat → Shared → Prop} {R : Result → Shared → Prop}
    (W : WalksS P w A.in1 I fp wr G n Pv St) (S : Addr) (apart : S ∉ fp) (ks : List (NestedKey × Addr)) (hn : n = ks.length) (few : ∀ M : List (NestedKey × Addr), (M.map Prod.fst).Nodup → (∀ p ∈ M, p ∈ ks) → M.length < 299) (vals : ∀ i v, Pv i v → ∃ p, ks[i]? = some p ∧ v = .ref p.2)
    (h0 : Heap) (keys : ∀ p ∈ ks, KeyAt h0 p.1 p.2) (newS : h0.get? S = none) (newW : ∀ b ∈ wr, h0.get? b = none) (hu : A.in1.units + 8 < cLine) :
    ∀ (d i : Nat) (s : Shared), n - i = d → i ≤ n → St i s → (∀ b o, h0.get? b = some o → s.heap.get? b = some o) → (∃ L es ep t, SetN w s.heap S L es ep t ∧ GotN ks i L) →
      (∀ s' L es ep t, Moved (S :: wr) G s s' → SetN w s'.heap S L es ep t → GotN ks n L → (∀ b o, h0.get? b = some o → s'.heap.get? b = some o) → R (.ok (.ret .none)) s') →
      codeAny (model P w) A (.builtin "set.update.loop" ⟨[.ref S, .ref I], []⟩) R s := by
  have outW : S ∉ wr := fun z => apart (W.sub _ z)
  have inW : ∀ b ∈ wr, b ∈ S :: wr := fun b z => List.mem_cons_of_mem _ z
  have olds : ∀ {s s' : Shared}, Moved wr G s s' → (∀ b o, h0.get? b = some o → s.heap.get? b = some o) → ∀ b o, h0.get? b = some o → s'.heap.get? b = some o := fun mv old b o e =>
    mv.heap b o (fun z => by rw [newW b z] at e; cases e) (old b o e)
  intro d
  induction d with
  | zero =>
    intro i s hd le st old ⟨L, es, ep, t, hS, got⟩ hR
    obtain rfl : i = n := by omega
    refine codeAny_builtin F.entry_set_update_loop ?_
    rw [Around.under_plainId F.plain_set_update_loop _]
    show wpAny _ A.in1 (pyNext (.ref I) >>= _) _ _ s
    refine wpAny_bind (W.done s _ _ st fun s' mv => ?_)
    show wpAny _ A.in1 (ret Value.none) _ _ s'
    have old' := olds mv old
    exact wpAny_pure (hR s' L es ep t (mv.mono inW) (hS.move (fun o e => mv.heap S o outW e) fun p hp => (keys p (List.mem_of_mem_take (got.sub p hp))).old old') got old')
  | succ d ih =>
    intro i s hd le st old ⟨L, es, ep, t, hS, got⟩ hR
    have lt : i < n := by omega
    refine codeAny_builtin F.entry_set_update_loop ?_
    rw [Around.under_plainId F.plain_set_update_loop _]
    show wpAny _ A.in1 (pyNext (.ref I) >>= _) _ _ s
    refine wpAny_bind (W.item i s _ _ lt st fun v s' hv st' mv => ?_)
    obtain ⟨p, hp, rfl⟩ := vals i v hv
    have old' := olds mv old
    have hS' : SetN w s'.heap S L es ep t := hS.move (fun o e => mv.heap S o outW e) fun q hq => (keys q (List.mem_of_mem_take (got.sub q hq))).old old'
    have hx : KeyAt s'.heap p.1 p.2 := (keys p (List.mem_of_getElem? hp)).old old'
    show wpAny _ A.in1 (holding [Value.ref p.2] (setAdd S (.ref p.2)) >>= _) _ _ s'
    refine wpAny_bind (wpAny_holding ?_)
    unfold setAdd
    refine wpAny_holding ?_
    refine wpAny_bind (pyHash_key p.1 _ _ _ _ hx.is (by have := hx.low; omega) ?_)
    refine put_in (s := { s' with toks := s'.toks + p.1.draws }) hS' hx hu (by have := few L hS'.one fun q hq => List.mem_of_mem_take (got.sub q hq); omega) fun b h' L' es' ep' t' sb hS2 c1 c2 => ?_
    have old2 : ∀ b o, h0.get? b = some o → h'.get? b = some o := fun b o e => (sb.2 b (fun z => by rw [z, newS] at e; cases e)).trans (old' b o e)
    refine wpAny_pure ⟨plainId_quiet F.plain_set_update_loop _, ih (i + 1) _ (by omega) lt (W.frame _ s' _ _ st' (Nat.le_add_right _ _) fun b hb o e => ?_) old2 ⟨L', es', ep', t', hS2, got.next hp c1 c2⟩ fun s3 L3 es3 ep3 t3 mv3 hS3 got3 old3 => ?_⟩
    · rw [sb.2 b fun z => apart (z ▸ hb)]
      exact e
    · refine hR s3 L3 es3 ep3 t3 (Moved.trans W.gtrans ((mv.mono inW).then_heap (Nat.le_add_right _ _) fun b o hb e => ?_) mv3) hS3 got3 old3
      rw [sb.2 b fun z => hb (by rw [z]; exact List.mem_cons_self)]
      exact e
theorem set_of_keys {src : Addr} {vals : Array Value} (ks : List (NestedKey × Addr)) {Q : Value → Shared → Prop} (calm : A.handled = none) (isL : s.heap.IsList src vals) (are : vals.toList = ks.map fun p => Value.ref p.2)
    (keys : ∀ p ∈ ks, KeyAt s.heap p.1 p.2) (few : ∀ M : List (NestedKey × Addr), (M.map Prod.fst).Nodup → (∀ p ∈ M, p ∈ ks) → M.length < 299) (hu : A.units + 11 < cLine)
    (fin : ∀ (g : Heap) (tk : Nat) L es ep t, SetN w g s.heap.objs.size L es ep t → GotN ks ks.length L → (∀ b o, s.heap.get? b = some o → g.get? b = some o) → Q (.ref s.heap.objs.size) { s with heap := g, toks := tk }) :
    wpAny (model P w) A (call (.type "set") [.ref src]) Q E s := by
  have many : vals.size = ks.length := by
    have z := congrArg List.length are
    simpa using z
  obtain ⟨cc, cl, ho⟩ := F.called_set.mro
  have ⟨m1, m2, m3, m4⟩ := And.intro F.called_set.made (And.intro F.called_set.sub (And.intro F.called_set.notType F.called_set.canCreate))
  have m5 := F.typeCall_set_1 (Value.ref src)
  refine wpAny_call (codeAny_of_tree (show wpAny _ _ (callAny (.type "set") _) _ _ _ from ?_))
  refine wpAny_pure (And.intro (Code.quiet_builtin _ (by decide +kernel)) (codeAny_builtin F.entry_type_call ?_))
  rw [Around.under_plain (weight_type_call_type "set" [Value.ref src] []) rfl]
  repeat (any_goals (first | assumption | wp_step))
  refine codeAny_mono (code_set_led1 (Value.ref src) (E := E) (Q₁ := fun u t => u = .ref s.heap.objs.size ∧ t = { s with heap := s.heap.push (noneYet w) }) (And.intro rfl rfl)) fun r1 t1 z1 => ?_
  cases r1 with
  | error _ => exact z1
  | ok f1 =>
  cases f1 with
  | next => exact z1.elim
  | brk => exact z1.elim
  | cont => exact z1.elim
  | ret u =>
  obtain ⟨rfl, rfl⟩ := z1
  have at0 : (s.heap.push (noneYet w)).get? s.heap.objs.size = some (noneYet w) := Heap.get?_push_size _ rfl
  have ty0 : Shared.TypeIs { s with heap := s.heap.push (noneYet w) } (.ref s.heap.objs.size) "set" := ⟨_, at0, rfl⟩
  have n1 := F.called_set.init.lookup
  have n2 := F.called_set.init.bind (Value.ref s.heap.objs.size)
  repeat (any_goals (first | assumption | wp_step))
  refine codeAny_mono (codeAny_call_builtin (R := wants (fun r t => r = .none ∧ ∃ (g : Heap) (tk : Nat) (L : List (NestedKey × Addr)) (es : Array (Int × Value)) (ep : Nat) (tb : SetTable), t = { s with heap := g, toks := tk } ∧ SetN w g s.heap.objs.size L es ep tb ∧ GotN ks ks.length L ∧ (∀ b o, s.heap.get? b = some o → g.get? b = some o)) E)
    F.called_set.init.plain F.entry_set_init (check_set_init_1 ty0 ?_)) fun r2 t2 z2 => ?_
  · obtain ⟨⟨lc, ld, lx, ls⟩, at1, k1, len, k2⟩ := isL
    simp only at k1 k2
    subst k1 k2
    have at2 : (s.heap.push (noneYet w)).get? src = some { cls := .type "list", dict := ld, data := .seq vals len, slots := ls } := Heap.get?_push_of_some _ at1
    have o1 := F.sub_list_set
    have o2 := F.sub_list_frozenset
    have o3 : (Value.type "list" == Value.type "dict") = false := by decide
    have isL2 : (s.heap.push (noneYet w)).IsList src vals := ⟨_, at2, rfl, len, rfl⟩
    unfold Builtin.«set.__init__» noKeywords Builtin.Frozenset.updateFrom
    generalize keep : pyIter = PI
    wp_walk
    subst keep
    refine wpAny_pyIter_list isL2 (wpAny_bind (wpAny_runValue ?_))
    have lt := Heap.lt_size at1
    have sz : (s.heap.push (noneYet w)).objs.size = s.heap.objs.size + 1 := Heap.size_push ..
    have calm3 : A.in1.in1.in1.handled = none := by simp only [Around.in1, calm]
    have apart : src ≠ (s.heap.push (noneYet w)).objs.size := fun z => by
      rw [z, sz] at lt
      exact absurd lt (Nat.not_lt_of_le (Nat.le_succ _))
    have out : s.heap.objs.size ∉ [(s.heap.push (noneYet w)).objs.size, src] := fun z => by
      rcases List.mem_cons.mp z with z | z
      · rw [sz] at z
        exact absurd z (Nat.ne_of_lt (Nat.lt_succ_self _))
      · rw [List.mem_singleton.mp z] at lt
        exact Nat.lt_irrefl _ lt
    have each : ∀ (i : Nat) (v : Value), vals[i]? = some v → ∃ p, ks[i]? = some p ∧ v = .ref p.2 := fun i v hv => by
      have z : vals.toList[i]? = some v := by rw [Array.getElem?_toList]; exact hv
      rw [are, List.getElem?_map] at z
      obtain ⟨p, e1, e2⟩ := Option.map_eq_some_iff.mp z
      exact ⟨p, e1, e2.symm⟩
    have fresh : ∀ b, s.heap.objs.size ≤ b → s.heap.get? b = none := fun b hb => by
      cases e : s.heap.get? b with
      | none => rfl
      | some o => exact absurd (Heap.lt_size e) (Nat.not_lt_of_le hb)
    refine update_keys (Walks.list calm3 _ src apart vals).toS s.heap.objs.size out ks many few each s.heap keys (fresh _ (Nat.le_refl _)) (fun b hb => fresh b (by rw [List.mem_singleton.mp hb, sz]; exact Nat.le_succ _)) (by simp only [Around.in1_units]; omega) (vals.size - 0) 0 _ rfl (Nat.zero_le _) ⟨⟨_, Heap.get?_push_size _ rfl, rfl, rfl⟩, isL2.push _⟩
      (fun b o e => Heap.get?_push_of_some _ (Heap.get?_push_of_some _ e)) ⟨[], #[], 0, _, setN_new (Heap.get?_push_of_some _ at0), ⟨fun p hp => (nomatch hp), fun p hp => (by simp at hp), Nat.le_refl _⟩⟩ fun t L es ep tb mv Rt got old => ?_
    obtain ⟨g, gg, dd, tk, os⟩ := t
    obtain rfl : gg = s.gens := mv.gens
    obtain rfl : dd = s.drawn := mv.drawn
    obtain rfl : os = s.os := mv.os
    show wpAny _ _ _ _ _ _
    refine wpAny_pure (show wpAny _ _ (ret Value.none) _ _ _ from wpAny_pure ⟨rfl, g, tk, L, es, ep, tb, rfl, Rt, many ▸ got, old⟩)
  · cases r2 with
    | error _ => exact z2
    | ok f2 =>
    cases f2 with
    | next => exact z2.elim
    | brk => exact z2.elim
    | cont => exact z2.elim
    | ret _ =>
    obtain ⟨rfl, g, tk, L, es, ep, tb, rfl, Rt, got, old⟩ := z2
    repeat (any_goals (first | assumption | wp_step))
    exact fin g tk L es ep tb Rt got old
end
/-! ### sorted(list of alike data) -/
section
variable {X : Cx}
open PySem.W PySem.Calls
theorem each_of {K : PySem.W.Frag} {H : Hp} : ∀ {xs : List V} {us : List Value} {ds : List PyData}, Vals xs us → DpAll K H xs ds → EachIs (fun (u : Value) (d : PyData) => ∃ x, RelV x u ∧ Dp K H x d) us ds
  | [], _, _, .nil, .nil => .nil
  | _ :: _, _, _, .cons a t, .cons b u => .cons ⟨_, a, b⟩ (each_of t u)
theorem each_back {K : PySem.W.Frag} {H : Hp} : ∀ {us : List Value} {ds : List PyData}, EachIs (fun (u : Value) (d : PyData) => ∃ x, RelV x u ∧ Dp K H x d) us ds → ∃ ys, Vals ys us ∧ DpAll K H ys ds
  | [], _, .nil => ⟨[], .nil, .nil⟩
  | _ :: _, _, .cons ⟨x, a, b⟩ t => by
    obtain ⟨ys, h1, h2⟩ := each_back t
    exact ⟨x :: ys, .cons a h1, .cons b h2⟩
def rSortD (K : PySem.W.Frag) : List V → Hp → VK → Prop := fun vs H Q => ∃ (l : Addr) (xs : List V) (ds : List PyData), vs = [V.ref l] ∧ SqL K H l xs ∧ DpAll K H xs ds ∧ AllAlike ds ∧ Sortable ds ∧ (∀ d ∈ ds, d.depth ≤ 50) ∧
  ∀ (p : Addr) (ys : List V), ys.length = ds.length → DpAll K H ys (ds.mergeSort (dataLe false id)) → H p = none → Q (.ref p) (upd H p (.lst ys))
theorem cr_sortD (hu : X.A.units + 64 < cLine) : CallR X (.builtin "sorted") (rSortD X.K) := by
  intro pins s σ H vs us Q I r h
  obtain ⟨l, xs, ds, rfl, hs, hd, al, so, dp, q⟩ := h
  obtain ⟨its, rv, hl, hz⟩ := I.list hs
  rw [Vals.ref1 r]
  have e := each_of rv hd
  have ld := dpAll_len hd
  refine sorted_data (enc := id) hl.isList e (e.mono fun u d ⟨x, rx, dx⟩ => Dp.reads I d x u dx rx) (by rw [List.map_id]; exact al) (by rw [List.map_id]; exact so) (by omega) (fun d hd' => by have := dp d hd'; show X.A.units + 2 + d.depth < cLine; omega) fun out ho eo => ?_
  obtain ⟨ys, hys, hyd⟩ := each_back eo
  obtain ⟨ep, he'⟩ := PyProof.Rows.sortedAll_at s.heap its out.toArray
  have ly : ys.length = ds.length := by rw [hys.length, ho]
  exact ⟨.ref _, upd H (s.heap.objs.size + 1) (.lst ys), I.laid (t' := s.toks) (fun _ _ => PyProof.Rows.sortedAll_old) (Nat.le_succ _) ⟨by omega, out, ep, hys, he'⟩, rfl, q _ ys ly hyd (I.hok.fresh (Nat.le_succ _))⟩
end
/-! ### such keys as data: set(..) and sorted(..) in a frame -/
mutual
def isKeyD : PyData → Bool
  | .int _ => true
  | .none => true
  | .tuple ds => isKeyDs ds
  | _ => false
def isKeyDs : List PyData → Bool
  | [] => true
  | d :: ds => isKeyD d && isKeyDs ds
end
mutual
def keyOf : PyData → NestedKey
  | .int i => .num i
  | .tuple ds => .tup (keysOf ds)
  | _ => .none
def keysOf : List PyData → List NestedKey
  | [] => []
  | d :: ds => keyOf d :: keysOf ds
end
mutual
theorem keyOf_low : ∀ d : PyData, (keyOf d).depth ≤ d.depth
  | .int i => Nat.le_refl _
  | .tuple ds => by
    have z := keysOf_low ds
    simp only [keyOf, NestedKey.depth, PyData.depth]
    omega
  | .none => Nat.zero_le _
  | .bool _ => Nat.zero_le _
  | .str _ => Nat.zero_le _
  | .list _ => Nat.zero_le _
  | .dict _ => Nat.zero_le _
theorem keysOf_low : ∀ ds : List PyData, NestedKey.depthAll (keysOf ds) ≤ PyData.depthAll ds
  | [] => Nat.le_refl _
  | d :: ds => by
    have y := keyOf_low d
    have z := keysOf_low ds
    simp only [keysOf, NestedKey.depthAll, PyData.depthAll]
    omega
end
mutual
theorem keyOf_nums : ∀ d : PyData, wordless (keyOf d) = true
  | .int i => rfl
  | .tuple ds => by simp only [keyOf, wordless]; exact keysOf_nums ds
  | .none => rfl
  | .bool _ => rfl
  | .str _ => rfl
  | .list _ => rfl
  | .dict _ => rfl
theorem keysOf_nums : ∀ ds : List PyData, wordlessAll (keysOf ds) = true
  | [] => rfl
  | d :: ds => by simp only [keysOf, wordlessAll, keyOf_nums d, keysOf_nums ds, Bool.and_self]
end
mutual
theorem keyOf_inj : ∀ d e : PyData, isKeyD d = true → isKeyD e = true → keyOf d = keyOf e → d = e
  | .int i, e, _, h, q => by
    cases e with
    | int j =>
      simp only [keyOf] at q
      injection q with q
      rw [q]
    | tuple es => simp only [keyOf] at q; cases q
    | none => simp only [keyOf] at q; cases q
    | _ => cases h
  | .tuple ds, e, k, h, q => by
    cases e with
    | int j => simp only [keyOf] at q; cases q
    | tuple es =>
      simp only [keyOf] at q
      injection q with q
      rw [keysOf_inj ds es k h q]
    | none => simp only [keyOf] at q; cases q
    | _ => cases h
  | .none, e, _, h, q => by
    cases e with
    | none => rfl
    | int j => simp only [keyOf] at q; cases q
    | tuple es => simp only [keyOf] at q; cases q
    | _ => cases h
  | .bool _, _, k, _, _ => by cases k
  | .str _, _, k, _, _ => by cases k
  | .list _, _, k, _, _ => by cases k
  | .dict _, _, k, _, _ => by cases k
theorem keysOf_inj : ∀ ds es : List PyData, isKeyDs ds = true → isKeyDs es = true → keysOf ds = keysOf es → ds = es
  | [], [], _, _, _ => rfl
  | [], e :: es, _, _, q => by simp only [keysOf] at q; cases q
  | d :: ds, [], _, _, q => by simp only [keysOf] at q; cases q
  | d :: ds, e :: es, k, h, q => by
    simp only [keysOf] at q
    injection q with q1 q2
    simp only [isKeyDs, Bool.and_eq_true] at k h
    rw [keyOf_inj d e k.1 h.1 q1, keysOf_inj ds es k.2 h.2 q2]
end
section
variable {X : Cx} {pins : List (Addr × Obj)} {σ : L2.St} {H : Hp} {s : Shared}
mutual
theorem is_key (I : Inv X pins σ H s) : ∀ (d : PyData) (x : V) (v : Value), isKeyD d = true → Dp X.K H x d → RelV x v → NestedIs s.heap (keyOf d) v ∧ Reads s.heap v d []
  | .int i, _, v, _, h, r => by
    cases h
    obtain ⟨t, rfl⟩ := r
    exact ⟨.int _ _, .int _ _⟩
  | .tuple ds, _, v, k, h, r => by
    cases h with
    | tup h1 h2 =>
      obtain ⟨its, rv, ⟨o, ho, hc, n, hd⟩, _⟩ := I.tuple h1
      cases r
      obtain ⟨a1, a2⟩ := are_keys I ds _ its k h2 rv
      exact ⟨.tup ho hc hd (by simpa using a1), .tuple ho hc hd (by simpa using a2)⟩
  | .none, _, _, _, h, r => by
    cases h
    cases r
    exact ⟨.none, .none⟩
  | .bool _, _, _, k, _, _ => by cases k
  | .str _, _, _, k, _, _ => by cases k
  | .list _, _, _, k, _, _ => by cases k
  | .dict _, _, _, k, _, _ => by cases k
theorem are_keys (I : Inv X pins σ H s) : ∀ (ds : List PyData) (xs : List V) (vs : List Value), isKeyDs ds = true → DpAll X.K H xs ds → Vals xs vs → NestedAll s.heap (keysOf ds) vs ∧ ReadsAll s.heap vs ds []
  | [], _, _, _, .nil, .nil => ⟨.nil, .nil⟩
  | d :: ds, _, _, k, .cons h hs, .cons r rs => by
    simp only [isKeyDs, Bool.and_eq_true] at k
    obtain ⟨a1, a2⟩ := is_key I d _ _ k.1 h r
    obtain ⟨b1, b2⟩ := are_keys I ds _ _ k.2 hs rs
    exact ⟨.cons a1 b1, .cons (as := []) (bs := []) a2 b2⟩
end
theorem key_at (I : Inv X pins σ H s) {d : PyData} {b : Addr} (k : isKeyD d = true) (low : d.depth ≤ 8) (h : Dp X.K H (.ref b) d) : KeyAt s.heap (keyOf d) b :=
  ⟨(is_key I d _ (.ref b) k h rfl).1, Nat.le_trans (keyOf_low d) low, keyOf_nums d⟩
end
abbrev asKeys (L : List (PyData × Addr)) : List (NestedKey × Addr) := L.map fun p => (keyOf p.1, p.2)
/-- the set at a, but for its items -/
structure SetK (w : World) (h : Heap) (a : Addr) (L : List (PyData × Addr)) : Prop where
  ex : ∃ (es : Array (Int × Value)) (ep : Nat) (t : SetTable), (∃ o, h.get? a = some o ∧ o.ExactSet ∧ o.data = .set es ep t) ∧ es.toList = rowsN w (asKeys L) ∧ TabW t ((asKeys L).map fun p => p.1.hash w) ∧ ((asKeys L).map Prod.fst).Nodup ∧ t.plain = true ∧
    (w.params.followText "set-order" = true ∨ t.led = true) ∧ (asKeys L).length * 5 < t.mask * 3 ∧ (asKeys L).length < 300
def SetKO (w : World) (a : Addr) (L : List (PyData × Addr)) : HO := .ext fun h => SetK w h a L
theorem SetN.k {w : World} {h : Heap} {a : Addr} {L : List (PyData × Addr)} {es : Array (Int × Value)} {ep : Nat} {t : SetTable} (R : SetN w h a (asKeys L) es ep t) : SetK w h a L := ⟨es, ep, t, R.obj, R.rows, R.tab, R.one, R.plain, R.seen, R.room, R.few⟩
theorem SetK.n {w : World} {h : Heap} {a : Addr} {L : List (PyData × Addr)} (R : SetK w h a L) (keys : ∀ p ∈ asKeys L, KeyAt h p.1 p.2) : ∃ es ep t, SetN w h a (asKeys L) es ep t := by
  obtain ⟨es, ep, t, q1, q2, q3, q4, q5, q6, q7, q8⟩ := R.ex
  exact ⟨es, ep, t, q1, q2, q3, q4, keys, q5, q6, q7, q8⟩
theorem setKO_new {P : Program} {w : World} {H : Hp} {h : Heap} {a : Addr} {L : List (PyData × Addr)} (R : SetK w h a L) : ObjOk P w H h a (SetKO w a L) := by
  have ⟨_, _, _, ⟨o, at1, _⟩, _⟩ := R.ex
  refine ⟨R, ⟨o, at1⟩, fun h1 h2 p k => ?_⟩
  have ⟨es, ep, t, ⟨u, at2, q1⟩, q2⟩ := SetK.ex p
  exact ⟨es, ep, t, ⟨u, k u at2, q1⟩, q2⟩
theorem perm_lift {α β : Type} {f : α → β} : ∀ {vs : List β} {L : List α}, vs.Perm (L.map f) → ∃ M : List α, M.Perm L ∧ vs = M.map f
  | [], L, h => by
    have z := h.length_eq
    cases L with
    | nil => exact ⟨[], .nil, rfl⟩
    | cons _ _ => simp at z
  | v :: vs, L, h => by
    obtain ⟨x, hx, rfl⟩ := List.mem_map.mp (h.mem_iff.mp List.mem_cons_self)
    obtain ⟨l1, l2, rfl⟩ := List.append_of_mem hx
    have z : (f x :: vs).Perm (f x :: (l1 ++ l2).map f) := by
      refine h.trans ?_
      rw [List.map_append, List.map_cons, List.map_append]
      exact List.perm_middle
    obtain ⟨M, pm, e⟩ := perm_lift (List.perm_cons _ |>.mp z)
    exact ⟨x :: M, (pm.cons x).trans List.perm_middle.symm, by rw [e]; rfl⟩
theorem hu64 {A : Around} {k : Nat} (hr : Room k A) : A.units + 64 < cLine := Nat.lt_of_succ_lt (hu65 hr)
section
variable {X : Cx}
open PySem.W PySem.Calls
/-- set(xs): xs a list of such tuples, of which few are unlike -/
def rSetW (K : PySem.W.Frag) (w : World) : List V → Hp → VK → Prop := fun xs H Q => ∃ (l : Addr) (ks : List (PyData × Addr)), xs = [V.ref l] ∧ SqL K H l (ks.map fun p => V.ref p.2) ∧ (∀ p ∈ ks, isKeyD p.1 = true ∧ p.1.depth ≤ 8 ∧ Dp K H (.ref p.2) p.1) ∧
  (∀ D : List PyData, D.Nodup → (∀ d ∈ D, d ∈ ks.map Prod.fst) → D.length < 299) ∧
  ∀ a L, H a = none → (∀ p ∈ L, p ∈ ks) → (∀ p ∈ ks, p.1 ∈ L.map Prod.fst) → (L.map Prod.fst).Nodup → L.length ≤ ks.length → Q (.ref a) (upd H a (SetKO w a L))
/-- set(xs): xs a short list of such tuples -/
def rSetK (K : PySem.W.Frag) (w : World) : List V → Hp → VK → Prop := fun xs H Q => ∃ (l : Addr) (ks : List (PyData × Addr)), xs = [V.ref l] ∧ SqL K H l (ks.map fun p => V.ref p.2) ∧ (∀ p ∈ ks, isKeyD p.1 = true ∧ p.1.depth ≤ 8 ∧ Dp K H (.ref p.2) p.1) ∧ ks.length < 299 ∧
  ∀ a L, H a = none → (∀ p ∈ L, p ∈ ks) → (∀ p ∈ ks, p.1 ∈ L.map Prod.fst) → (L.map Prod.fst).Nodup → L.length ≤ ks.length → Q (.ref a) (upd H a (SetKO w a L))
theorem asKeys_part {ks : List (PyData × Addr)} : ∀ {L : List (NestedKey × Addr)}, (∀ p ∈ L, p ∈ asKeys ks) → ∃ M : List (PyData × Addr), (∀ p ∈ M, p ∈ ks) ∧ L = asKeys M
  | [], _ => ⟨[], fun p hp => absurd hp List.not_mem_nil, rfl⟩
  | p :: L, h => by
    obtain ⟨u, h1, h2⟩ := List.mem_map.mp (h p List.mem_cons_self)
    obtain ⟨M, h3, h4⟩ := asKeys_part (ks := ks) fun x hx => h x (List.mem_cons_of_mem _ hx)
    refine ⟨u :: M, fun y hy => ?_, by rw [← h2, h4]; rfl⟩
    rcases List.mem_cons.mp hy with rfl | hy
    · exact h1
    · exact h3 y hy
theorem data_once {M : List (PyData × Addr)} (h : ((asKeys M).map Prod.fst).Nodup) : (M.map Prod.fst).Nodup := by
  rw [List.map_map] at h
  have y : (M.map fun p => keyOf p.1).Nodup := h
  rw [show (fun p : PyData × Addr => keyOf p.1) = keyOf ∘ Prod.fst from rfl, ← List.map_map] at y
  exact List.Pairwise.of_map keyOf (fun _ _ ne e => ne (congrArg keyOf e)) y
theorem refs_are : ∀ {ks : List (PyData × Addr)} {us : List Value}, Vals (ks.map fun p => V.ref p.2) us → us = ks.map fun p => Value.ref p.2
  | [], _, .nil => rfl
  | p :: ks, _, .cons r t => by
    cases r
    rw [refs_are t]
    rfl
theorem cr_setW (hc : X.calm = true) (hu : X.A.units + 64 < cLine) : CallR X (.type "set") (rSetW X.K X.w) := by
  intro pins s σ H xs us Q I r h
  obtain ⟨l, ks, rfl, hl, hk, few, q⟩ := h
  rw [Vals.ref1 r]
  obtain ⟨its, rv, pl, _⟩ := I.list hl
  refine set_of_keys (asKeys ks) (I.ok.hd hc) pl.isList (by rw [List.map_map]; exact refs_are rv) (fun p hp => ?_) (fun M nd sub => ?_) (by omega) fun g tk L es ep t R got old => ?_
  · obtain ⟨u, hu', rfl⟩ := List.mem_map.mp hp
    exact key_at I (hk u hu').1 (hk u hu').2.1 (hk u hu').2.2
  · obtain ⟨N, hN, rfl⟩ := asKeys_part sub
    have z := few (N.map Prod.fst) (data_once nd) fun d hd => by
      obtain ⟨p, hp, rfl⟩ := List.mem_map.mp hd
      exact List.mem_map.mpr ⟨p, hN p hp, rfl⟩
    rw [List.length_map] at z ⊢
    exact z
  · have sub : ∀ p ∈ L, ∃ u ∈ ks, p = (keyOf u.1, u.2) := fun p hp => by
      obtain ⟨u, h1, h2⟩ := List.mem_map.mp (List.mem_of_mem_take (got.sub p hp))
      exact ⟨u, h1, h2.symm⟩
    obtain ⟨M, hM, rfl⟩ : ∃ M : List (PyData × Addr), (∀ p ∈ M, p ∈ ks) ∧ L = asKeys M := by
      clear R got
      induction L with
      | nil => exact ⟨[], fun p hp => absurd hp List.not_mem_nil, rfl⟩
      | cons p L ih =>
        obtain ⟨u, h1, h2⟩ := sub p List.mem_cons_self
        obtain ⟨M, h3, h4⟩ := ih fun x hx => sub x (List.mem_cons_of_mem _ hx)
        refine ⟨u :: M, fun y hy => ?_, by rw [h2, h4]; rfl⟩
        rcases List.mem_cons.mp hy with rfl | hy
        · exact h1
        · exact h3 y hy
    refine ⟨.ref _, _, I.laid (t' := tk) old (Nat.le_refl _) (setKO_new R.k), rfl, q _ M (I.hok.fresh (Nat.le_refl _)) hM (fun p hp => ?_) ?_ (by have z := got.len; rw [List.length_map, List.length_map] at z; exact z)⟩
    · have z := got.all (keyOf p.1, p.2) (by rw [List.take_length]; exact List.mem_map.mpr ⟨p, hp, rfl⟩)
      obtain ⟨y, hy, e⟩ := List.mem_map.mp z
      obtain ⟨u, h1, rfl⟩ := List.mem_map.mp hy
      exact List.mem_map.mpr ⟨u, h1, keyOf_inj _ _ (hk u (hM u h1)).1 (hk p hp).1 e⟩
    · have z := R.one
      rw [List.map_map] at z
      have y : (M.map fun p => keyOf p.1).Nodup := z
      rw [show (fun p : PyData × Addr => keyOf p.1) = keyOf ∘ Prod.fst from rfl, ← List.map_map] at y
      exact List.Pairwise.of_map keyOf (fun _ _ ne e => ne (congrArg keyOf e)) y
theorem cr_setK (hc : X.calm = true) (hu : X.A.units + 64 < cLine) : CallR X (.type "set") (rSetK X.K X.w) := by
  intro pins s σ H xs us Q I r h
  obtain ⟨l, ks, e, hl, hk, few, q⟩ := h
  refine cr_setW hc hu pins s σ H xs us Q I r ⟨l, ks, e, hl, hk, fun D nd sub => ?_, q⟩
  have z := List.Nodup.length_le_of_subset nd (l₂ := ks.map Prod.fst) fun d hd => sub d hd
  rw [List.length_map] at z
  omega
/-- sorted(set) -/
def rSortedK (K : PySem.W.Frag) (w : World) : List V → Hp → VK → Prop := fun vs H Q => ∃ (a : Addr) (L : List (PyData × Addr)), vs = [V.ref a] ∧ H a = some (SetKO w a L) ∧ (∀ p ∈ L, isKeyD p.1 = true ∧ p.1.depth ≤ 8 ∧ Dp K H (.ref p.2) p.1) ∧ AllAlike (L.map Prod.fst) ∧ Sortable (L.map Prod.fst) ∧
  ∀ (M : List (PyData × Addr)) (ys : List V) (p : Addr), M.Perm L → ys.length = M.length → DpAll K H ys ((M.map Prod.fst).mergeSort (dataLe false id)) → H p = none → Q (.ref p) (upd H p (.lst ys))
theorem cr_sortedK (hc : X.calm = true) (hu : X.A.units + 64 < cLine) : CallR X (.builtin "sorted") (rSortedK X.K X.w) := by
  intro pins s σ H vs0 us Q I r h
  obtain ⟨a, L, rfl, ha, hk, al, so, q⟩ := h
  obtain ⟨es, ep, t, R⟩ := SetK.n (I.hok a _ ha).1 fun p hp => by
    obtain ⟨u, h1, rfl⟩ := List.mem_map.mp hp
    exact key_at I (hk u h1).1 (hk u h1).2.1 (hk u h1).2.2
  rw [Vals.ref1 r]
  obtain ⟨o, at1, exact1, dat⟩ := R.obj
  have many := R.many
  have few := R.few
  refine Calls.call_function_entry kind_sorted plain_sorted entry_sorted (args_sorted1 _) ?_
  unfold Builtin.«sorted»
  refine wpAny_bind (m := checkCount "sorted" 1 1 _) (wpAny_pure ?_)
  refine wpAny_bind (collect_set (A := X.A.in1) (I.ok.hd hc) ⟨o, at1, exact1.1, dat⟩ R.fit (by unfold scanBound; omega) R.tab.ris R.seen fun s1 vs old grew g1 o1 pm => ?_)
  have items : es.toList.map (·.2) = L.map fun p => Value.ref p.2 := by
    rw [R.rows]
    unfold rowsN
    rw [List.map_map, List.map_map]
    rfl
  rw [items] at pm
  obtain ⟨M, pmM, rfl⟩ := perm_lift pm
  have lenM : M.length < 300 := by
    have z := pmM.length_eq
    rw [List.length_map] at few
    omega
  refine wpAny_bind (wpAny_newList ?_ (by rw [List.length_map, sizeLine_eq]; omega))
  have at2 : (s1.heap.push (seqObj "list" (M.map fun p => Value.ref p.2).toArray 0)).get? s1.heap.objs.size = some (seqObj "list" (M.map fun p => Value.ref p.2).toArray 0) := Heap.get?_push_size _ rfl
  have e1 : EachIs (fun (u : Value) (d : PyData) => ∃ x, RelV x u ∧ Dp X.K H x d) (M.map fun p => Value.ref p.2) (M.map Prod.fst) := by
    have z : ∀ p ∈ M, p ∈ L := fun p hp => pmM.mem_iff.mp hp
    clear pm pmM at2 lenM
    induction M with
    | nil => exact .nil
    | cons p M ih => exact .cons ⟨.ref p.2, rfl, (hk p (z p List.mem_cons_self)).2.2⟩ (ih fun x hx => z x (List.mem_cons_of_mem _ hx))
  have e2 : EachIs (fun (v : Value) (d : PyData) => ∃ as, Reads (s1.heap.push (seqObj "list" (M.map fun p => Value.ref p.2).toArray 0)) v (id d) as ∧ s1.heap.objs.size ∉ as) (M.map fun p => Value.ref p.2) (M.map Prod.fst) := by
    have z : ∀ p ∈ M, p ∈ L := fun p hp => pmM.mem_iff.mp hp
    clear pm pmM at2 lenM e1
    generalize seqObj "list" (M.map fun p => Value.ref p.2).toArray 0 = new
    induction M with
    | nil => exact .nil
    | cons p M ih =>
      refine .cons ⟨[], PyProof.Rows.Reads.keeps (fun b u e => Heap.get?_push_of_some _ (old b u e)) (is_key I p.1 _ (.ref p.2) (hk p (z p List.mem_cons_self)).1 (hk p (z p List.mem_cons_self)).2.2 rfl).2, fun z => nomatch z⟩ (ih fun x hx => z x (List.mem_cons_of_mem _ hx))
  have pmD := pmM.map Prod.fst
  have al2 : AllAlike (M.map Prod.fst) := fun x hx y hy => al x (pmD.mem_iff.mp hx) y (pmD.mem_iff.mp hy)
  have so2 : Sortable (M.map Prod.fst) := so.imp (fun h d hd => h d (pmD.mem_iff.mp hd)) fun h d hd => h d (pmD.mem_iff.mp hd)
  refine wpAny_bind (wpAny_holding (list_sort_data (enc := id) (s := { s1 with heap := s1.heap.push (seqObj "list" (M.map fun p => Value.ref p.2).toArray 0) }) at2 e1 e2 (by rw [List.map_id]; exact al2) (by rw [List.map_id]; exact so2) (by rw [List.length_map, sizeLine_eq]; omega) (fun d hd => ?_) fun out ho eo => ?_))
  · obtain ⟨u, h1, rfl⟩ := List.mem_map.mp hd
    have z := (hk u (pmM.mem_iff.mp h1)).2.1
    show X.A.in1.units + 1 + u.1.depth < cLine
    rw [Around.in1_units]
    omega
  · obtain ⟨c, at3⟩ := sortedHeap_at (vs := M.map fun p => Value.ref p.2) (out := out.toArray) at2
    obtain ⟨ys, hys, hyd⟩ := each_back eo
    have ly : ys.length = M.length := by rw [hys.length, ho, List.length_map]
    have fresh : H s1.heap.objs.size = none := I.hok.fresh grew
    have old2 : ∀ b u, s.heap.get? b = some u → (sortedHeap (s1.heap.push (seqObj "list" (M.map fun p => Value.ref p.2).toArray 0)) s1.heap.objs.size (M.map fun p => Value.ref p.2) out.toArray).get? b = some u := fun b u e => by
      have z := old b u e
      have lt := Heap.lt_size z
      rw [sortedHeap_old (Nat.ne_of_lt lt) (by rw [size_push']; exact Nat.lt_succ_of_lt lt)]
      exact Heap.get?_push_of_some _ z
    refine wpAny_pure ⟨_, rfl, ?_⟩
    show EP X pins σ Q (Value.ref s1.heap.objs.size) { s1 with heap := sortedHeap (s1.heap.push (seqObj "list" (M.map fun p => Value.ref p.2).toArray 0)) s1.heap.objs.size (M.map fun p => Value.ref p.2) out.toArray }
    generalize sortedHeap (s1.heap.push (seqObj "list" (M.map fun p => Value.ref p.2).toArray 0)) s1.heap.objs.size (M.map fun p => Value.ref p.2) out.toArray = g2 at at3 old2
    have hlen : ys.length ≤ sizeLine := by rw [ly, sizeLine_eq]; omega
    have J : Inv X pins σ (upd H s1.heap.objs.size (.lst ys)) { s with heap := g2, gens := s1.gens, drawn := s1.drawn, toks := s1.toks } :=
      I.call (ch := []) (Un.laid old2 grew fresh) (I.hok.laid old2 grew ⟨hlen, out, c, hys, at3⟩) (by rw [g1]; exact I.bare) (fun _ z => nomatch z)
    have e : ({ s1 with heap := g2 } : Shared) = { s with heap := g2, gens := s1.gens, drawn := s1.drawn, toks := s1.toks } := by rw [← o1]
    rw [e]
    exact ⟨.ref _, _, J, rfl, q M ys _ pmM ly hyd fresh⟩
end
/-! ### a comprehension's loop, whatever stands within -/
section
variable {J : It} {n : Nat} {G : Hp → Prop} {Y : Nat → Hp → V → Hp → Prop}
theorem turns_it (wk : Walk J n G Y) {Body : V → Hp → (Hp → Prop) → Prop} {H0 : Hp} {Qe : Hp → Prop} (R : Nat → Hp → Prop) (r0 : R 0 H0) (rG : ∀ k L, k ≤ n → R k L → G L)
    (rs : ∀ k v L L', k < n → R k L → Y k L v L' → Body v L' (R (k + 1))) (re : ∀ L, R n L → Qe L) :
    ∃ W : Nat → Nat → Hp → Prop, (∃ m, W 0 m H0) ∧ ∀ k m L, W k m L → (J.stop k L ∧ Qe L) ∨ (J.go k L ∧ ∃ Nx : Hp → Prop, (∀ L', Nx L' → ∃ m', m' < m ∧ W (k + 1) m' L') ∧ ∀ v L', J.yld k L v L' → Body v L' Nx) := by
  refine ⟨fun k m L => k + m = n ∧ R k L, ⟨n, Nat.zero_add n, r0⟩, fun k m L ⟨e, p⟩ => ?_⟩
  have g := rG k L (by omega) p
  cases m with
  | zero =>
    obtain rfl : k = n := e
    exact .inl ⟨wk.stops L g, re L p⟩
  | succ m => exact .inr ⟨wk.goes k L (by omega) g, R (k + 1), fun L' p' => ⟨m, Nat.lt_succ_self m, by omega, p'⟩, fun v L' y => rs k v L L' (by omega) p (wk.yields k L v L' (by omega) g y)⟩
end
section
variable {X : Cx}
theorem pe_revTK (K : PySem.W.Frag) (hK : X.K = K) {e : Expr} {te : TE} {k : Nat} {p1 p2 p3 pos : Pos} (he : PE X e te) : PE X (.Subscript e (.Slice none none (some (.UnaryOp .USub (.Constant (.int 1) k p1) p2)) p3) pos) (tBackT K te) := hK ▸ pe_revT he
end
/-! ### a generator expression over a range; elements of a longer row and a number -/
theorem over_rng {X : Cx} {s1 : Shared} {r T : Addr} {lo hi : Int} {ta tb tc : Tok} {ps : Array Value} (calm : X.A.handled = none) (hr : IsRange s1.heap r lo hi 1 ta tb tc) (sm : Builtin.Range.small lo hi 1 = true) (hT : s1.heap.get? T = some { cls := .none, data := .fields ps }) :
    OverOk X (.ref r) s1 (hi - lo).toNat (fun i v => ∃ t, v = .int (lo + (i : Nat) * 1) t) T := by
  have tT : s1.heap.objs.size ≠ T := fun z => Nat.lt_irrefl _ (z ▸ Heap.lt_size hT)
  have hn : Builtin.Range.rangeSize lo hi 1 = ((hi - lo).toNat : Int) := by
    rw [rangeSize_one]
    split <;> omega
  refine ⟨{ cls := .type "range_iterator", data := .fields #[rawInt lo, rawInt (Builtin.Range.rangeSize lo hi 1), rawInt 1] }, [s1.heap.objs.size], fun i h => IsRangeIter h s1.heap.objs.size (lo + (i : Nat) * 1) (((hi - lo).toNat : Int) - (i : Nat)) 1, fun Q E q => wpAny_pyIter_range hr sm q, fun A' hA => Walks.range hA s1.heap.objs.size lo 1 _, fun b hb => by rw [List.mem_singleton.mp hb]; exact Nat.le_refl _, fun h' k => ?_, fun i h st => ⟨_, st⟩⟩
  show IsRangeIter h' s1.heap.objs.size (lo + ((0 : Nat) : Int) * 1) (((hi - lo).toNat : Int) - ((0 : Nat) : Int)) 1
  have z1 : lo + ((0 : Nat) : Int) * 1 = lo := by simp
  have z2 : ((hi - lo).toNat : Int) - ((0 : Nat) : Int) = ((hi - lo).toNat : Int) := by simp
  rw [z1, z2, ← hn]
  exact k _ _ tT (Heap.get?_push_size _ rfl)
section
variable {P : Program} {w : World} {A : Around} {env : Env} {s : Shared} {a b c : Expr}
theorem gv_if {i j u v : Int} {pos p2 : Pos} (ha : GV P w A env s a (IsI i)) (hb : GV P w A env s b (IsI j)) {x y : Expr} (hx : GV P w A env s x (IsI u)) (hy : GV P w A env s y (IsI v)) (hm : behindInMarks .Eq b = false := by with_unfolding_all rfl) :
    GV P w A env s (.IfExp (.Compare a [.Eq] [b] p2) x y pos) (IsI (if i = j then u else v)) := fun E s1 k => by
  refine wpAny_IfExp (wpAny_isTrue_Compare1 (wpAny_mono (ha E s1 k) (fun z s2 ⟨⟨t, e⟩, k2⟩ => wpAny_mono (hb E s2 k2) (fun z' s3 ⟨⟨t', e'⟩, k3⟩ => ?_) fun _ _ h => h) fun _ _ h => h) hm)
  subst e
  subst e'
  refine eq_int (wpAny_truthy_bool ?_)
  by_cases q : i = j
  · rw [if_pos q]
    have e : (i == j) = true := beq_iff_eq.mpr q
    rw [e]
    exact hx E s3 k3
  · rw [if_neg q]
    have e : (i == j) = false := beq_eq_false_iff_ne.mpr q
    rw [e]
    exact hy E s3 k3
theorem gm_turn {j u : Int} {t : Addr} {its : List Value} {k1 k2 : Nat} {p1 p2 p3 : Pos} (ha : GV P w A env s a (IsI j)) (hb : ∀ s', PySem.Keeps s s' → GV P w A env s' b (· = .ref t)) (ht : IsTup s.heap t its.toArray) (few : its.length < 1000) (hc : ∀ s', PySem.Keeps s s' → GV P w A env s' c (IsI u))
    (st1 : starEach [a] env = (false, eval a env) :: starEach [] env := by rfl)
    (st2 : starEach [Expr.BinOp (.Tuple [a] k1 p1) .Add b p2, c] env = (false, eval (Expr.BinOp (.Tuple [a] k1 p1) .Add b p2) env) :: (false, eval c env) :: starEach [] env := by rfl) (E : Value → Shared → Prop) :
    wpAny (model P w) A (eval (.Tuple [.BinOp (.Tuple [a] k1 p1) .Add b p2, c] k2 p3) env) (fun y s3 => (∃ q r tj tu, y = .ref q ∧ q ≠ r ∧ s.heap.get? q = none ∧ s.heap.get? r = none ∧ s3.heap.get? q = some { cls := .type "tuple", data := .seq [Value.ref r, .int u tu].toArray } ∧
      s3.heap.get? r = some { cls := .type "tuple", data := .seq (Value.int j tj :: its).toArray }) ∧ PySem.Keeps s s3) E s := by
  have fresh : ∀ {x y : Shared}, PySem.Keeps x y → x.heap.get? y.heap.objs.size = none := fun {x y} k => by
    cases e : x.heap.get? y.heap.objs.size with
    | none => rfl
    | some o => exact absurd (Heap.lt_size (keepsH k _ _ e)) (Nat.lt_irrefl _)
  have pushK : ∀ {x y : Shared} (o : Obj), PySem.Keeps x y → PySem.Keeps x { y with heap := y.heap.push o } := fun {x y} o k => by
    obtain ⟨h, t, rfl, kk⟩ := k
    exact ⟨_, t, rfl, fun c o e => Heap.get?_push_of_some _ (kk c o e)⟩
  refine wpAny_Tuple_spliced ?_
  rw [st2]
  refine (?_ : wpAny _ _ (spliced ((false, eval (Expr.BinOp (.Tuple [a] k1 p1) .Add b p2) env) :: backTo p3 ((false, eval c env) :: starEach [] env))) _ _ s)
  refine Calls.spliced_cons ?_
  -- the longer row
  have row : wpAny (model P w) A (eval (Expr.BinOp (.Tuple [a] k1 p1) .Add b p2) env) (fun y s2 => (∃ r tj, y = .ref r ∧ s.heap.get? r = none ∧ s2.heap.get? r = some { cls := .type "tuple", data := .seq (Value.int j tj :: its).toArray }) ∧ PySem.Keeps s s2) E s := by
    refine wpAny_BinOp (wpAny_Tuple_spliced ?_)
    rw [st1]
    refine (?_ : wpAny _ _ (spliced ((false, eval a env) :: backTo p1 (starEach [] env))) _ _ s)
    refine Calls.spliced_cons (wpAny_mono (ha E s (GxR.keeps_refl _)) (fun y s1 ⟨⟨tj, ey⟩, k⟩ => ?_) fun _ _ z => z)
    subst ey
    refine Calls.spliced_nil ⟨by show 1 ≤ sizeLine; decide, ?_⟩
    have f1 := fresh k
    have kq := pushK { cls := .type "tuple", data := .seq [Value.int j tj].toArray } k
    have q1 : (s1.heap.push { cls := .type "tuple", data := .seq [Value.int j tj].toArray }).get? s1.heap.objs.size = some { cls := .type "tuple", data := .seq [Value.int j tj].toArray } := Heap.get?_push_size _ rfl
    refine wpAny_mono (hb _ kq E _ (GxR.keeps_refl _)) (fun y s2 ⟨ey, k2⟩ => ?_) fun _ _ z => z
    subst ey
    have kk := keepsT kq k2
    have hq2 := keepsH k2 _ _ q1
    have ht2 := ht.keeps (keepsH kk)
    refine HT.cat_tup (vs := [Value.int j tj]) (ws := its) ⟨_, hq2, rfl, _, rfl⟩ ht2 (by simp) (fun e => ?_) (fun _ => ?_) (by show 1 + its.length ≤ sizeLine; exact Nat.le_trans (by omega : _ ≤ 1001) (by decide))
    · subst e
      exact ⟨⟨_, tj, rfl, f1, hq2⟩, kk⟩
    · exact ⟨⟨_, tj, rfl, fresh kk, Heap.get?_push_size _ rfl⟩, pushK _ kk⟩
  refine wpAny_mono row (fun y s1 ⟨⟨r, tj, ey, n1, h1⟩, k⟩ => ?_) fun _ _ z => z
  subst ey
  refine (?_ : wpAny _ _ (spliced ((false, eval c env) :: backTo p3 (starEach [] env))) _ _ s1)
  refine Calls.spliced_cons (wpAny_mono (hc s1 k E s1 (GxR.keeps_refl _)) (fun y s2 ⟨⟨tu, ey⟩, k2⟩ => ?_) fun _ _ z => z)
  subst ey
  have h2 := keepsH k2 _ _ h1
  refine Calls.spliced_nil ⟨by show 2 ≤ sizeLine; decide, ⟨s2.heap.objs.size, r, tj, tu, rfl, ?_, fresh (keepsT k k2), n1, Heap.get?_push_size _ rfl, ?_⟩, pushK _ (keepsT k k2)⟩
  · exact fun z => by
      rw [← z] at h2
      exact absurd (Heap.lt_size h2) (Nat.lt_irrefl _)
  · exact Heap.get?_push_of_some _ h2
end
/-- three names, in a comprehension -/
theorem pg_tripK (K : PySem.W.Frag) {X : Cx} {i j l k : Nat} {x y z : Str} {p q s pos : Pos} (hK : X.K = K) (hc : X.calm = true) (hN : X.N.Nodup) (hi : X.N[i]? = some x) (hx : Loc X.env.scope x) (hj : X.N[j]? = some y) (hy : Loc X.env.scope y) (hl : X.N[l]? = some z) (hz : Loc X.env.scope z)
    (hf : X.fn x = true ∨ X.env.scope.names.lookup x = some .local := by first | exact .inl rfl | exact .inr rfl) (hf' : X.fn y = true ∨ X.env.scope.names.lookup y = some .local := by first | exact .inl rfl | exact .inr rfl) (hf2 : X.fn z = true ∨ X.env.scope.names.lookup z = some .local := by first | exact .inl rfl | exact .inr rfl) :
    PG X (.Tuple [.Name x p, .Name y q, .Name z s] k pos) (gTup K 3 (gCons (gName i) (gCons (gName j) (gCons (gName l) gNil)))) := by
  subst hK
  exact pg_tup hc (pgs_cons (pg_name hN hi hx hf) (pgs_cons (pg_name hN hj hy hf') (pgs_cons (pg_name hN hl hz hf2) pgs_nil)))
/-! ### walks within a comprehension -/
theorem pi_tupK (K : PySem.W.Frag) {X : Cx} {tg l : Expr} {tl : TE} (hK : X.K = K) (hl : PE X l tl) : PI X tg l (iTup K tl) := by
  subst hK
  exact pi_tup hl
theorem pi_listK (K : PySem.W.Frag) {X : Cx} {tg l : Expr} {tl : TE} (hK : X.K = K) (hl : PE X l tl) : PI X tg l (iList K tl) := by
  subst hK
  exact pi_list hl
/-- a set of numbers, its size -/
theorem setR_few {w : World} {h : Heap} {a : Addr} {S : Int → Bool} {n : Nat} (R : SetR w h a S n) {bs : List Int} (sub : ∀ k, S k = true → k ∈ bs) : n ≤ bs.length := by
  obtain ⟨o, es, ep, t, ho, hex, hd, g, nd, hm, hb, hf, hn, hr, hl⟩ := R
  rw [← hn, ← Array.length_toList]
  have z := List.Nodup.length_le_of_subset nd (l₂ := bs) fun k hk => sub k ((hm k).mpr hk)
  rwa [List.length_map] at z
section
variable {X : Cx}
open PySem.W PySem.Calls
/-- sorted(set of few numbers) -/
def rSortedFew (w : World) : List V → Hp → VK → Prop := fun vs H Q => ∃ (a : Addr) (S : Int → Bool) (n : Nat) (bs : List Int), vs = [V.ref a] ∧ H a = some (SetO w a S n) ∧ (∀ k, S k = true → k ∈ bs) ∧ bs.length < 64 ∧
  ∀ (ns : List Int) (p : Addr), ns.Pairwise (· < ·) → (∀ k : Int, k ∈ ns ↔ S k = true) → ns.length = n → H p = none → Q (.ref p) (upd H p (.lst (ns.map V.int)))
theorem cr_sortedFew (hc : X.calm = true) : CallR X (.builtin "sorted") (rSortedFew X.w) := by
  intro pins s σ H vs us Q I r h
  obtain ⟨a, S, n, bs, rfl, ha, sub, few, q⟩ := h
  have := setR_few (setO_get I ha) sub
  exact cr_sortedSet hc pins s σ H [V.ref a] us Q I r ⟨a, S, n, rfl, ha, by omega, q⟩
end
/-! ### (x,) * k, for k of 0 and 1 -/
theorem tuple_mul1 (l : Addr) (items : Array Value) (n : Nat) (dd : Option Addr) (sl : Array (Option Value)) (u : Tok) :
    Meets (Builtin.«tuple.__mul__» ⟨[.ref l, .int 1 u], []⟩) (fun _ R s => s.heap.get? l = some { cls := .type "tuple", dict := dd, data := .seq items n, slots := sl } ∧ R (.ok (.ret (.ref l))) s) :=
  .of_wp fun prog w A R s h => by
    obtain ⟨hp, g, d, tk, os⟩ := s
    obtain ⟨hl, h⟩ := h
    have f1 := AutoSeq1.idx_int
    wp_walk using wpAny_loadPart' hl
    repeat (first
      | (refine wpAny_ite_false (decide_eq_false (by decide)) ?_; wp_walk using wpAny_loadPart' hl)
      | (refine wpAny_ite_true (decide_eq_true (by simp)) ?_; wp_walk using wpAny_loadPart' hl))
    exact ⟨_, rfl, h⟩
theorem tuple_mul0 (l : Addr) (it : Value) (n : Nat) (dd : Option Addr) (sl : Array (Option Value)) (u : Tok) :
    Meets (Builtin.«tuple.__mul__» ⟨[.ref l, .int 0 u], []⟩) (fun _ R s => s.heap.get? l = some { cls := .type "tuple", dict := dd, data := .seq #[it] n, slots := sl } ∧
      R (.ok (.ret (Value.ref s.heap.objs.size))) { s with heap := s.heap.push { cls := Value.type "tuple", data := Data.seq #[] }, toks := s.toks }) :=
  .of_wp fun prog w A R s h => by
    obtain ⟨hp, g, d, tk, os⟩ := s
    obtain ⟨hl, h⟩ := h
    have f1 := AutoSeq1.idx_int
    wp_walk using wpAny_loadPart' hl
    repeat (first
      | (refine wpAny_ite_false (decide_eq_false (by decide)) ?_; wp_walk using wpAny_loadPart' hl)
      | (refine wpAny_ite_true (decide_eq_true (by simp)) ?_; wp_walk using wpAny_loadPart' hl))
    exact ⟨_, rfl, h⟩
def rRepFew (K : PySem.W.Frag) : R2 := fun x y H Q => ∃ (l : Addr) (k : Int) (v : V), x = .ref l ∧ y = .int k ∧ SqT K H l [v] ∧ 0 ≤ k ∧ k ≤ 1 ∧ (k = 1 → Q (.ref l) H) ∧ (k = 0 → ∀ p, H p = none → Q (.ref p) (upd H p (.tup [])))
theorem op_repFew {X : Cx} : OpR X (binaryOp .Mult) (rRepFew X.K) := by
  rintro pins s σ H _ _ _ _ Q I rx ry ⟨l, k, v, rfl, rfl, hT, lo, hi, q1, q0⟩
  obtain ⟨its, r, ⟨⟨cl, dd, dat, sl⟩, ho, rfl, n, rfl⟩, _⟩ := I.tuple hT
  cases rx
  obtain ⟨tk, rfl⟩ := ry
  cases r with
  | cons ru rn =>
  rename_i u us
  cases rn
  have isT : s.TypeIs (.ref l) "tuple" := ⟨_, ho, rfl⟩
  refine wpAny_binaryOp_repeat_ref (T := "tuple") (U := "int") (by decide) isT (fun z => typeIs_int z k tk) noFill_tuple_mul F.fills_int_mul F.slot_int_rmul repeat_tuple F.slot_int_index.lookup ?_
  refine call_meets F.slot_int_rmul (typeIs_int s k tk) F.entry_int_rmul (F.args_int_rmul_2 _ _) (int_rmul_tuple k tk l [u].toArray n dd sl) ⟨ho, rfl, isT, ?_⟩
  obtain rfl | rfl : k = 0 ∨ k = 1 := by omega
  · refine call_meets F.slot_tuple_mul isT F.entry_tuple_mul (F.args_tuple_mul_2 _ _) (tuple_mul0 l u n dd sl tk) ⟨ho, ?_⟩
    refine ⟨.ref s.heap.objs.size, _, I.laid (t' := s.toks) (o := .tup []) (fun b o e => Heap.get?_push_of_some _ e) (Nat.le_refl _) ⟨Nat.zero_le _, _, .nil, _, Heap.get?_push_size _ rfl, rfl, _, rfl⟩, rfl, q0 rfl _ (I.hok.fresh (Nat.le_refl _))⟩
  · refine call_meets F.slot_tuple_mul isT F.entry_tuple_mul (F.args_tuple_mul_2 _ _) (tuple_mul1 l [u].toArray n dd sl tk) ⟨ho, ?_⟩
    exact ⟨.ref l, _, I, rfl, q1 rfl⟩
/-! ### (x,) * k, for k of 1 and more -/
def rRepPos (K : PySem.W.Frag) : R2 := fun x y H Q => ∃ (l : Addr) (k : Int) (v : V), x = .ref l ∧ y = .int k ∧ SqT K H l [v] ∧ 1 ≤ k ∧ k ≤ 9000 ∧ ∀ (p : Addr) (J : Hp), Grow H J → SqT K J p (List.replicate k.toNat v) → Q (.ref p) J
theorem op_repPos {X : Cx} : OpR X (binaryOp .Mult) (rRepPos X.K) := by
  intro pins s σ H x y v' u Q I rx ry ⟨l, k, v, e1, e2, hT, lo, hi, q⟩
  by_cases h : k = 1
  · subst h
    exact op_repFew pins s σ H x y v' u Q I rx ry ⟨l, 1, v, e1, e2, hT, by decide, by decide, fun _ => q l H (Grow.refl H) hT, fun z => by cases z⟩
  · exact op_repOne pins s σ H x y v' u Q I rx ry ⟨l, k, v, e1, e2, hT, by omega, hi, fun p hp => q p _ (Grow.new hp) (SqT.of upd_same)⟩
/-! ### a def that raises, called where it does not -/
theorem quietF {P : Program} {w : World} {K : PySem.W.Frag} {mg : Str → Option Value} {base : Heap} {k : Nat} {f : Addr} {fd : FuncData} {ps : List Str} {sp sp' : Sp} (F : FnOk P w K mg base (L2.CX P w) k f fd ps sp)
    (h : ∀ vs H Q E, sp' vs H Q E → sp vs H Q E0) : FnOk P w K mg base CX0 k f fd ps sp' :=
  ⟨fun vs H Q E z => F.len _ _ _ _ (h vs H Q E z), fun A outer s H args us vs Q E hr e b v z => codeAny_mono (F.run A outer s H args us vs Q E0 hr e b v (h _ _ _ _ z)) fun r s' c => by
    cases r with
    | ok x => cases x with
      | ret u => exact c
      | next => exact c
      | brk => exact c
      | cont => exact c
    | error e =>
      obtain ⟨_, _, _, _, _, _, _, _, _, _, _, _, hE⟩ := c
      exact hE.elim⟩
/-! ### tuple(elt for target in iter): the element told as any expression in the context of the expression's own frame -/
section
open GenW
variable {P : Program} {w : World} {outer : List Env} {H : Hp} {sc s : Shared} {ex : List Addr} {Q : List V → Hp → Prop} {A : Around} {a : Addr} {g : Nat} {c0 : Code}
/-- tuple(g): what is behind it -/
def TupEnd (P : Program) (w : World) (outer : List Env) (H : Hp) (sc : Shared) (ex : List Addr) (Q : List V → Hp → Prop) (acc : Array Value) (s' : Shared) : Prop :=
  ∃ H' ys, Vals ys acc.toList ∧ ys.length ≤ sizeLine ∧ s'.os = sc.os ∧ AllBare s'.gens ∧ Un (frs outer) ex H H' sc.heap s'.heap ∧ HOk P w H' s'.heap ∧ Q ys H'
/-- the generator at a, not begun, may be woken over any later state -/
structure GFresh (P : Program) (w : World) (k : Nat) (outer : List Env) (H : Hp) (sc : Shared) (ex : List Addr) (Q : List V → Hp → Prop) (a : Addr) (g : Nat) (c0 : Code) (s : Shared) : Prop where
  lt : a < s.heap.objs.size
  isg : s.heap.IsGen a g
  gen : s.gens[g]? = some (.fresh c0)
  os : s.os = sc.os
  bare : AllBare s.gens
  lim : s.heap.NoLimit
  wake : ∀ (A : Around) (S : Addr) (s2 : Shared), Room k A → A.frames = some outer → s.heap.objs.size ≤ S → (∀ b o, s.heap.get? b = some o → s2.heap.get? b = some o) → (∃ c, s2.heap.get? S = some (lstObj #[] c)) → s2.os = sc.os → AllBare s2.gens →
    Seg (model P w) A (REnd P w outer H sc ex S a g Q (fun _ _ _ => False)) (YItem sc S a g) sizeLine s2 c0 ((model P w).den c0) [] s2
theorem gx_collect {k : Nat} {Q' : List Value → Shared → Prop} {E : Value → Shared → Prop} (hr : Room (k + 3) A) (hfr : A.frames = some outer) (F : GFresh P w k outer H sc ex Q a g c0 s)
    (q : ∀ s' acc, TupEnd P w outer H sc ex Q acc s' → Q' acc.toList s') : wpAny (model P w) A (collect (.ref a)) Q' E s := by
  have gty : ∀ {h : Heap}, (∀ b o, s.heap.get? b = some o → h.get? b = some o) → h.IsGen a g := fun {h} q => F.isg.keeps q
  have Sa : s.heap.objs.size ≠ a := Nat.ne_of_gt F.lt
  have hcl : cStatics < s.heap.objs.size := let ⟨_, hn, _⟩ := F.lim; hn.lt
  have hSc : s.heap.objs.size ≠ cStatics := Nat.ne_of_gt hcl
  have k1 : ∀ b o, s.heap.get? b = some o → (s.heap.push { cls := .type "list", data := .seq ([] : List Value).toArray }).get? b = some o := fun b o e => Heap.get?_push_of_some _ e
  unfold collect
  refine wpAny_bind (wpAny_runValue (codeAny_builtin PySem.F.entry_proto_collect ?_))
  rw [Around.under_plainId PySem.F.plain_proto_collect _]
  refine (?_ : wpAny _ A.in1 (newList [] >>= fun l => again (.builtin "list.__iadd__" ⟨[l, .ref a], []⟩)) _ _ s)
  refine wpAny_bind (wpAny_newObj_type (wpAny_pure ⟨plainId_quiet PySem.F.plain_list_iadd _, codeAny_builtin PySem.F.entry_list_iadd ?_⟩))
  rw [Around.under_plainId PySem.F.plain_list_iadd _]
  refine (?_ : wpAny _ A.in1 (Builtin.List.listExtendWith (.ref s.heap.objs.size) (.ref a) (.ref s.heap.objs.size)) _ _ _)
  unfold Builtin.List.listExtendWith
  refine wpAny_bind (wpAny_typeOf (Heap.IsGen.typeIs (s := { s with heap := _ }) (gty k1)) ?_)
  simp only [show Builtin.List.listSameRef (.ref s.heap.objs.size) (.ref a) = false by simp [Builtin.List.listSameRef, Sa], show (Value.type "generator" == Value.type "list") = false by decide, show (Value.type "generator" == Value.type "tuple") = false by decide, Bool.or_false, Bool.false_eq_true, if_false]
  refine wpAny_bind (wpAny_pyIter_gen (s := { s with heap := _ }) (gty k1) (wpAny_bind (wpAny_holding ?_)))
  unfold Builtin.List.listLengthHint
  refine wpAny_bind (wpAny_specialOf (Heap.IsGen.typeIs (s := { s with heap := _ }) (gty k1)) PySem.F.gen_no_len ?_)
  refine (?_ : wpAny _ A.in1 (specialOf (Value.ref a) (Str.ofString "__length_hint__") >>= _) _ _ _)
  refine wpAny_bind (wpAny_specialOf (Heap.IsGen.typeIs (s := { s with heap := _ }) (gty k1)) PySem.F.gen_no_hint (wpAny_pure ?_))
  refine (?_ : wpAny _ A.in1 (rule "list.extend.makes-room" >>= fun _ => Builtin.List.listTouch (.ref s.heap.objs.size) >>= fun _ => again (.builtin "list.extend.loop" ⟨[.ref s.heap.objs.size, .ref a, .ref s.heap.objs.size], []⟩)) _ _ _)
  have L1 : (s.heap.push { cls := .type "list", data := .seq ([] : List Value).toArray }).get? s.heap.objs.size = some { cls := .type "list", data := .seq ([] : List Value).toArray } := Heap.get?_push_size _ rfl
  refine wpAny_bind (wpAny_rule (wpAny_bind ?_))
  refine (?_ : wpAny _ A.in1 (updateSeq s.heap.objs.size (·.push .none) >>= fun _ => updateSeq s.heap.objs.size (·.pop)) _ _ _)
  refine wpAny_bind (wpAny_updateSeq L1 rfl ?_)
  have L2' := Heap.get?_update_self (Obj.mapSeq (·.push Value.none)) L1 rfl
  refine wpAny_updateSeq L2' rfl ?_
  have L3 := Heap.get?_update_self (Obj.mapSeq (·.pop)) L2' rfl
  have oth : ∀ b o, s.heap.get? b = some o → (((s.heap.push { cls := .type "list", data := .seq ([] : List Value).toArray }).update s.heap.objs.size (Obj.mapSeq (·.push Value.none))).update s.heap.objs.size (Obj.mapSeq (·.pop))).get? b = some o := fun b o z => by
    have hb : b ≠ s.heap.objs.size := Nat.ne_of_lt (Heap.lt_size z)
    exact (Heap.get?_update_other _ _ (Ne.symm hb)).trans ((Heap.get?_update_other _ _ (Ne.symm hb)).trans (k1 b o z))
  refine wpAny_pure ⟨plainId_quiet PySem.F.plain_extend_loop _, ?_⟩
  refine drain (P := P) (w := w) (outer := outer) (H := H) (sc := sc) (ex := ex) (Q := Q) (EX := fun _ _ _ => False) (A := A) (g := g) (S := s.heap.objs.size) (a := a) hr.hd (by have := hr.dp; show A.depth < _; omega) Sa hSc
    (fun s' acc c H' ys q1 q2 q3 q4 q5 q6 q7 q8 q9 => ?_) (fun e s' hc => ?_) sizeLine { s with heap := ((s.heap.push { cls := .type "list", data := .seq ([] : List Value).toArray }).update s.heap.objs.size (Obj.mapSeq (·.push Value.none))).update s.heap.objs.size (Obj.mapSeq (·.pop)) } (gty oth) (F.lim.keeps oth) ⟨_, F.gen, rfl, ?_⟩
  · refine (?_ : wpAny _ A (load s.heap.objs.size >>= _) _ _ s')
    exact wpAny_bind (wpAny_load q1 (wpAny_pure (q s' acc ⟨H', ys, q2, q3, q4, q5, q6, q7, q9⟩)))
  · obtain ⟨_, _, _, _, _, _, _, _, _, _, _, _, z⟩ := hc
    exact z.elim
  · refine F.wake _ _ _ ⟨hr.hd, ?_, ?_⟩ hfr (Nat.le_refl _) oth ⟨_, L3⟩ F.os (allBare_setGen (s := { s with heap := _ }) F.bare rfl)
    · have := hr.dp
      show A.depth + 3 * k + 5 < _
      omega
    · have := hr.un
      show A.units + 1 + 1 + 16 * k + 200 < _
      omega
theorem gx_new {k : Nat} {Q' : Value → Shared → Prop} {E : Value → Shared → Prop} (hr : Room (k + 4) A) (hfr : A.frames = some outer) (F : GFresh P w k outer H sc ex Q a g c0 s)
    (q : ∀ s' acc, TupEnd P w outer H sc ex Q acc s' → Q' (.ref s'.heap.objs.size) { s' with heap := s'.heap.push { cls := .type "tuple", data := .seq acc } }) :
    codeAny (model P w) A (.call (.builtin "tuple.__new__") ⟨[.type "tuple", .ref a], []⟩) (wants Q' E) s := by
  refine codeAny_of_tree ?_
  refine (?_ : wpAny _ A.in1 (do checkBuiltinCall "tuple.__new__" ⟨[.type "tuple", .ref a], []⟩; again (.builtin "tuple.__new__" ⟨[.type "tuple", .ref a], []⟩)) _ _ s)
  refine wpAny_bind (wpAny_of_eq (PySem.F.newCall_tuple_1 _) (wpAny_pure ⟨plainId_quiet PySem.F.plain_tuple_new _, codeAny_builtin PySem.F.entry_tuple_new ?_⟩))
  rw [Around.under_plainId PySem.F.plain_tuple_new _]
  have ⟨k1, k2, k3, k4⟩ := And.intro sub_tuple_self (And.intro init_tuple_lookup (And.intro madeHere_tuple F.isg.typeIs))
  have hr1 : Room (k + 3) A.in1 := ⟨hr.hd, by have := hr.dp; show A.depth + 3 * (k + 3) + 5 < _; omega, by have := hr.un; show A.units + 1 + 16 * (k + 3) + 200 < _; omega⟩
  wp_walk using wpAny_typeOf k4, gx_collect hr1 hfr F
  intro s' acc t
  refine (?_ : wpAny _ A.in1 (Builtin.Tuple.tupleExact acc.toList.toArray >>= fun v => ret v) _ _ _)
  unfold Builtin.Tuple.tupleExact
  have sz : acc.toList.toArray.size ≤ sizeLine := by
    obtain ⟨H', ys, q2, q3, _⟩ := t
    have := q2.length
    simp only [Array.toArray_toList]
    have e : acc.toList.length = acc.size := Array.length_toList
    omega
  refine wpAny_bind (wpAny_newObj_type (wpAny_pure ?_) sz)
  rw [show acc.toList.toArray = acc by simp]
  exact q s' acc t
theorem gx_tuple {k : Nat} {Q' : Value → Shared → Prop} {E : Value → Shared → Prop} (hr : Room (k + 5) A) (hfr : A.frames = some outer) (F : GFresh P w k outer H sc ex Q a g c0 s)
    (q : ∀ s' acc, TupEnd P w outer H sc ex Q acc s' → Q' (.ref s'.heap.objs.size) { s' with heap := s'.heap.push { cls := .type "tuple", data := .seq acc } }) :
    wpAny (model P w) A (call (.type "tuple") [.ref a]) Q' E s := by
  have hr1 : Room (k + 4) A.in1 := ⟨hr.hd, by have := hr.dp; show A.depth + 3 * (k + 4) + 5 < _; omega, by have := hr.un; show A.units + 1 + 16 * (k + 4) + 200 < _; omega⟩
  refine callType_codes (Q₁ := fun obj s1 => s1.TypeIs obj "tuple" ∧ Q' obj s1) PySem.F.called_tuple (PySem.F.typeCall_tuple_1 _) PySem.F.entry_object_init (gx_new hr1 hfr F fun s' acc t => ⟨⟨_, Heap.get?_push_size _ rfl, rfl⟩, q s' acc t⟩) fun obj s1 z => ⟨z.1, PySem.F.args_object_init_2 obj _, ?_⟩
  exact object_init_meets PySem.F.called_tuple.init.lookup PySem.F.called_tuple.made (by decide) P w A.in1 _ s1 ⟨z.1, rfl, z.2⟩
end
/-! ### the expression's own frame -/
section
open GenW
theorem clo_from {cells : List (Str × Addr)} {x : Str} {c : Addr} : ∀ (names : List (Str × NameKind)) (acc : List (Str × Addr)), (cloFrom cells names acc).lookup x = some c → acc.lookup x = some c ∨ ((x, NameKind.free) ∈ names ∧ (cells.lookup x).getD 0 = c)
  | [], acc, h => .inl h
  | (n, k) :: r, acc, h => by
    unfold cloFrom at h
    by_cases hk : k = .free
    · rw [if_pos (by rw [hk]; rfl)] at h
      rcases clo_from r _ h with q | ⟨q1, q2⟩
      · by_cases e : x = n
        · subst e
          rw [List.lookup_cons_self] at q
          exact .inr ⟨by rw [hk]; exact List.mem_cons_self, Option.some.inj q⟩
        · rw [List.lookup_cons] at q
          have ne : (x == n) = false := beq_eq_false_iff_ne.mpr e
          rw [ne] at q
          exact .inl q
      · exact .inr ⟨List.mem_cons_of_mem _ q1, q2⟩
    · rw [if_neg (fun z => hk (by simpa using z))] at h
      rcases clo_from r _ h with q | ⟨q1, q2⟩
      · exact .inl q
      · exact .inr ⟨List.mem_cons_of_mem _ q1, q2⟩
/-- the expression's own scope -/
structure GenC (env : Env) (scope : Scope) : Prop where
  kind : scope.kind = .function
  co : scope.isCoroutine = false
  cell : ∀ y ∈ scope.names, y.2 ≠ .cell
  dot : scope.names.lookup (".0" : Str) = some NameKind.local
  free : ∀ y ∈ scope.names, y.2 = .free → ∃ c, env.cells.lookup y.1 = some c
theorem GenC.clo {env : Env} {scope : Scope} (S : GenC env scope) {x : Str} {c : Addr} (h : (cloFrom env.cells scope.names []).lookup x = some c) : env.cells.lookup x = some c := by
  rcases clo_from _ _ h with q | ⟨q1, q2⟩
  · cases q
  · obtain ⟨d, hd⟩ := S.free _ q1 rfl
    have hd' : env.cells.lookup x = some d := hd
    rw [hd'] at q2
    rw [hd', show d = c from q2]
/-- its context: entered at s2, where G is tracked; fp: what is walked over -/
def gxCx (X : Cx) (N : List Str) (s2 : Shared) (G : Hp) (fp : List Addr) (env : Env) (A : Around) (pn : List (Addr × Obj)) : Cx :=
  { X with A := A.deeper env, N := N, s_0 := s2, H_0 := G, env := env, outer := X.stack, stack := env :: X.stack, ex := fp, fn := fun _ => false, calm := true, pn := pn, xe := fun _ _ => False }
variable {X : Cx} {pins : List (Addr × Obj)} {σ : L2.St} {H : Hp} {s2 : Shared} {scope : Scope} {fp : List Addr} {C : Addr} {code : Value} {A : Around} {N : List Str} {pn : List (Addr × Obj)}
theorem gx_ok (I : Inv X pins σ H s2) (S : GenC X.env scope) (hfp : ∀ b ∈ fp, FpOk X pins H b) (fpl : ∀ b ∈ fp, b < s2.heap.objs.size) (hC : s2.heap.objs.size ≤ C) (hA : A.handled = none) (hf : A.frames = some X.stack) :
    (gxCx X N s2 H fp (genEnv scope (cloFrom X.env.cells scope.names []) C code builtinsNs X.env) A pn).Ok := by
  refine ⟨I.ok.mod, S.kind, I.ok.glob, rfl, hC, fun x y c h1 h2 => I.ok.inj x y c (S.clo h1) (S.clo h2), fun x h => ?_, fun x c h => (by cases h), fun _ => hA, Around.frames_deeper hf, .inr ⟨rfl, rfl⟩,
    fun b hb => ⟨fun e => absurd (fpl b hb) (by rw [e]; exact Nat.not_lt.mpr hC), fun x c h => (hfp b hb).2.2.2.2.1 x c (S.clo h)⟩, I.bs, Nat.le_trans I.ok.bsz I.sz, fun b o e hb => ?_, fun b hb hm => ?_, I.stack, I.stkFree⟩
  · have h' : scope.names.lookup x = some .cell ∨ scope.names.lookup x = some .free := h
    rcases h' with h | h
    · exact absurd rfl (S.cell _ (PySem.mem_of_lookup h))
    · obtain ⟨c, hc⟩ := S.free _ (PySem.mem_of_lookup h) rfl
      exact ⟨c, clo_at hc _ _ (.inl (PySem.mem_of_lookup h))⟩
  · obtain ⟨_, _, _, q, _⟩ := hfp b hb
    rcases q with q | q
    · exact I.ok.noex b o e q
    · exact absurd (Heap.lt_size (I.ok.bs b o e).1) (Nat.not_lt.mpr q)
  · obtain ⟨_, q1, q2, _⟩ := hfp b hb
    rcases List.mem_cons.mp (I.stkSub b hm) with z | z
    · exact q1 z
    · exact q2 z
/-- which names of the def are captured -/
def capB (N : List Str) (sc scg : Scope) (ys : List Str) (cs : List Nat) : Bool := (ys.zip cs).all fun p => decide (N[p.2]? = some p.1) && decide (sc.names.lookup p.1 = some .cell) && decide (scg.names.lookup p.1 = some .free) && decide ((p.1, NameKind.free) ∈ scg.names)
theorem gx_inv {T : Addr} {ps more : Array Value} {z : Shared} {m : Str → Option Value} {xs ys : List Str} {cs : List Nat} {pins' : List (Addr × Obj)} (I : Inv X pins σ H s2) (S : GenC X.env scope) (hfp : ∀ b ∈ fp, FpOk X pins H b) (fpl : ∀ b ∈ fp, b < s2.heap.objs.size) (hC : s2.heap.objs.size ≤ C) (hA : A.handled = none) (hf : A.frames = some X.stack)
    (hT : H T = some (.tbl ps)) (k : ∀ b o, b ≠ T → s2.heap.get? b = some o → z.heap.get? b = some o) (hm : z.heap.get? T = some { cls := .none, data := .fields (ps ++ more) }) (os : z.os = s2.os) (bare : AllBare z.gens) (ns : z.heap.Ns C m)
    (cap : capB X.N X.env.scope scope ys cs = true) (lc : ys.length = cs.length) (hp : ∀ p ∈ pn ++ pins', z.heap.get? p.1 = some p.2 ∧ s2.heap.objs.size ≤ p.1 ∧ p.1 ≠ C ∧ ∀ v, p.2.data ≠ .cell v) :
    Inv (gxCx X (xs ++ ys) s2 H fp (genEnv scope (cloFrom X.env.cells scope.names []) C code builtinsNs X.env) A pn) pins' (List.replicate xs.length none ++ cs.map fun j => σ.getD j none) (upd H T (.tbl (ps ++ more))) z := by
  have J := GxR.inv_tab (h' := z.heap) (g' := z.gens) (d' := z.drawn) (t' := z.toks) I hT k hm bare
  rw [GxR.sh_eta s2 z os] at J
  have nT : ∀ b, H b = none → b ≠ T := fun b e w => by rw [w, hT] at e; cases e
  have gT : s2.heap.get? T = some { cls := .none, data := .fields ps } := I.hok T _ hT
  have young : ∀ b, s2.heap.objs.size ≤ b → H b = none ∧ b ∉ frs X.stack := fun b hb => ⟨I.hok.fresh hb, fun hm => by
    rcases List.mem_cons.mp (I.stkSub b hm) with e | e
    · have := I.lt
      rw [← e] at this
      exact absurd hb (Nat.not_le.mpr this)
    · exact I.nofs hb e⟩
  refine ⟨gx_ok I S hfp fpl hC hA hf, os, bare, ⟨fun b o e n _ _ => k b o (nT b n) e, fun b o e n _ _ => ⟨o.slots, k b o (nT b n) e⟩, fun b o e n _ => by rw [upd_ne (nT b n)]; exact n, fun b o e _ => ?_, fun b xs e => ?_, fun b o u e => ?_, fun b qs e => ?_⟩, ⟨m, ns, fun i x v h1 h2 _ => ?_⟩, fun x c h => ?_, ?_, fun x c h => ?_, fun p hp' => ?_, J.hok, ?_⟩
  · by_cases hb : b = T
    · rw [hb]
      exact ⟨_, hm⟩
    · exact ⟨o, k b o hb e⟩
  · have e' : H b = _ := e
    have : b ≠ T := fun w => by rw [w, hT] at e'; cases e'
    rw [upd_ne this]
    exact e'
  · have e' : H b = _ := e
    have : b ≠ T := fun w => by rw [w, hT] at e'; cases e'
    rw [upd_ne this]
    exact e'
  · have e' : H b = _ := e
    by_cases hb : b = T
    · rw [hb, hT] at e'
      cases e'
      exact ⟨more, by rw [hb]; exact upd_same⟩
    · exact ⟨#[], by rw [upd_ne hb, e']; simp⟩
  · have h1' : (xs ++ ys)[i]? = some x := h1
    by_cases hi : i < xs.length
    · rw [List.getElem?_append_left (by rw [List.length_replicate]; exact hi), List.getElem?_replicate, if_pos hi] at h2
      cases h2
    · rw [List.getElem?_append_right (by rw [List.length_replicate]; omega), List.length_replicate, List.getElem?_map] at h2
      rw [List.getElem?_append_right (by omega)] at h1'
      cases hj : cs[i - xs.length]? with
      | none => rw [hj] at h2; cases h2
      | some j =>
        rw [hj] at h2
        have e2 : σ.getD j none = some v := Option.some.inj h2
        have e3 : σ[j]? = some (some v) := by
          rw [List.getD_eq_getElem?_getD] at e2
          cases e4 : σ[j]? with
          | none => rw [e4] at e2; cases e2
          | some q => rw [e4] at e2; rw [show q = some v from e2]
        unfold capB at cap
        rw [List.all_eq_true] at cap
        have c1 := cap (x, j) (List.mem_of_getElem? (List.getElem?_zip_eq_some.mpr ⟨h1', hj⟩))
        simp only [Bool.and_eq_true, decide_eq_true_eq] at c1
        obtain ⟨⟨⟨c1, c2⟩, c3⟩, c4⟩ := c1
        obtain ⟨u, c, ru, hc, hcell⟩ := Inv.freeAt I c1 e3 c2
        refine ⟨u, ru, .inr ⟨.inr c3, c, clo_at hc _ _ (.inl c4), ?_⟩⟩
        obtain ⟨o, ho, hd⟩ := hcell
        exact ⟨o, k c o (nT c (I.freeC x c hc)) ho, hd⟩
  · obtain ⟨v, o, ho, hd⟩ := I.cell x c (S.clo h)
    exact ⟨v, o, k c o (nT c (I.freeC x c (S.clo h))) ho, hd⟩
  · have := (young C hC).1
    show upd H T _ C = none
    rw [upd_ne (nT C this)]
    exact this
  · have := I.freeC x c (S.clo h)
    rw [upd_ne (nT c this)]
    exact this
  · obtain ⟨q1, q2, q3, q4⟩ := hp p hp'
    obtain ⟨q5, q6⟩ := young p.1 q2
    exact ⟨q1, by rw [upd_ne (nT _ q5)]; exact q5, q3, q6, q4⟩
  · show (List.replicate xs.length none ++ _).length = (xs ++ ys).length
    rw [List.length_append, List.length_append, List.length_replicate, List.length_map, lc]
theorem over_gen {B : Around} {elt target iter : Expr} {ifs : List Expr} {pos : Pos} {it acc : Value} {env : Env} : B.over (.compLoop (.GeneratorExp elt [⟨target, iter, ifs, 0⟩] scope pos) 0 it acc env) [] = B.deeper env := by
  first
    | rfl
    | (obtain ⟨hd, d, fr, gs, u⟩ := B; simp [Around.over, Around.deeper, marksOver, frameCount, unitsOf, envsOf, guardsOf, pushEnvs, pushGuards, Code.envs, Code.env?, Code.isFrame, Code.guards, Code.isGuard, Code.weight, Code.frames, Code.isCreation, Code.isCaller, Code.cUnits])
theorem pins_list {R : Addr → Obj → Prop} : ∀ (l : List Addr), (∀ b ∈ l, ∃ o, R b o) → ∃ ip : List (Addr × Obj), ip.map Prod.fst = l ∧ ∀ p ∈ ip, R p.1 p.2
  | [], _ => ⟨[], rfl, fun p hp => absurd hp List.not_mem_nil⟩
  | b :: l, h => by
    obtain ⟨o, ho⟩ := h b List.mem_cons_self
    obtain ⟨ip, e, r⟩ := pins_list l fun c hc => h c (List.mem_cons_of_mem _ hc)
    refine ⟨(b, o) :: ip, by rw [List.map_cons, e], fun p hp => ?_⟩
    rcases List.mem_cons.mp hp with rfl | hp
    · exact ho
    · exact r p hp
end
/-! ### turn by turn; the rule -/
section
open GenW
variable {X : Cx} {N : List Str} {s2 : Shared} {H : Hp} {fp : List Addr} {scope : Scope} {C : Addr} {code : Value} {B : Around} {a S it : Addr} {g : Nat} {go : Obj} {elt target iter : Expr} {pos : Pos} {J : It} {tn : Nat → Heap → Prop} {tgt : TG} {te : TE} {Q : List V → Hp → Prop} {W : Nat → List V → Hp → Prop} {cs : L2.St} {mm : Nat}
theorem gx_loop {env : Env} (he : env.scope.isCoroutine = false) (ho : (gxCx X N s2 H fp env B [(a, go)]).Ok) (hg : go.cls = .type "generator" ∧ (∃ nm qn, go.data = .fields #[.int g 0, nm, qn]) ∧ go.slots = #[])
    (Sa : a ≠ S) (Sf : S ∉ fp) (af : a ∉ fp) (hAp : L2.Apart (gxCx X N s2 H fp env B [(a, go)]) S) (fpk : ∀ b ∈ fp, b ≠ env.locals ∧ b ∉ frs X.stack ∧ ∀ x c, env.cells.lookup x = some c → c ≠ b)
    (Tn : Turn X.prog X.w X.K target J fp it tn) (tg : PG (gxCx X N s2 H fp env B [(a, go)]) target tgt) (el : PE (gxCx X N s2 H fp env B [(a, go)]) elt te)
    (wk : ∀ i ys G, W i ys G → (J.stop i G ∧ ys.length ≤ sizeLine ∧ Q ys G) ∨ (J.go i G ∧ ys.length < sizeLine ∧ ∀ x G' τ, τ.length = mm → J.yld i G x G' → tgt x (τ ++ cs) G' fun σ' G2 => (∃ τ' : L2.St, τ'.length = mm ∧ σ' = τ' ++ cs) ∧ te σ' G2 fun y G3 => W (i + 1) (ys ++ [y]) G3)) :
    ∀ (n i : Nat) (ys : List V) (τ : L2.St) (s0 s : Shared) (G : Hp), τ.length = mm → n + ys.length = sizeLine → GI (gxCx X N s2 H fp env B [(a, go)]) S [] ys (τ ++ cs) G s → tn i s.heap → (∀ b ∈ fp, G b = none) → W i ys G →
      Seg (model X.prog X.w) B (REnd X.prog X.w X.stack H s2 fp S a g Q (fun _ _ _ => False)) (YItem s2 S a g) n s0 (.compLoop (.GeneratorExp elt [⟨target, iter, [], 0⟩] scope pos) 0 (.ref it) .none env)
        ((model X.prog X.w).den (.compLoop (.GeneratorExp elt [⟨target, iter, [], 0⟩] scope pos) 0 (.ref it) .none env)) [] s := by
  intro n
  induction n using Nat.strongRecOn with
  | ind n ih =>
    intro i ys τ s0 s G hτ hn hI htn hf hW
    obtain ⟨acc, c, rv, I⟩ := hI
    have hpin := I.pin (S, lstObj acc c) (List.mem_append_right _ List.mem_cons_self)
    have fpok : ∀ b ∈ fp, FpOk (gxCx X N s2 H fp env B [(a, go)]) ((S, lstObj acc c) :: []) G b := fun b hb => by
      obtain ⟨q1, q2, q3⟩ := fpk b hb
      refine ⟨hf b hb, q1, q2, .inl hb, q3, fun p hp => ?_⟩
      rcases List.mem_append.mp hp with hp | hp
      · rw [List.mem_singleton.mp hp]
        exact fun e => af (by rw [show a = b from e]; exact hb)
      · rw [List.mem_singleton.mp hp]
        exact fun e => Sf (by rw [show S = b from e]; exact hb)
    refine (?_ : Seg _ B _ _ _ s0 _ ((compTurn (.GeneratorExp elt [⟨target, iter, [], 0⟩] scope pos) 0 (.ref it) .none env).onRaise (leaving env)) [] s)
    rw [Sem.onRaise_eq_wrap, compTurn_gen]
    refine seg_bind_wrap (wpAny_standAt (seg_bind_wrap ?_))
    rw [over_gen]
    rcases wk i ys G hW with ⟨stp, ly, q⟩ | ⟨gog, ly, q⟩
    · refine wpAny_mono (Tn.done (gxCx X N s2 H fp env B [(a, go)]) rfl rfl rfl rfl i _ s _ G (fun _ _ => False) I fpok htn stp) (fun r s1 ⟨er, I1⟩ => ?_) fun _ _ z => z.elim
      subst er
      have hpin1 := I1.pin (S, lstObj acc c) (List.mem_append_right _ List.mem_cons_self)
      exact seg_end (.ok .next) (.inl ⟨.inr rfl, G, ys, acc, c, I1.os, I1.bare, I1.base, I1.hok, hpin1.2.1, hpin1.1, rv, ly, q⟩)
    · refine wpAny_mono (Tn.item (gxCx X N s2 H fp env B [(a, go)]) rfl rfl rfl rfl i _ s _ G (fun _ _ => False) I fpok htn gog) (fun r s1 ⟨u, er, wl⟩ => ?_) fun _ _ z => z.elim
      subst er
      refine seg_bind_wrap ?_
      rw [over_gen]
      refine wpAny_mono wl (fun _ s3 ⟨x, G', I3, rx, hy, tn3, fn3⟩ => ?_) fun _ _ z => z.elim
      obtain ⟨ip, eip, hip⟩ := pins_list (R := fun b o => s3.heap.get? b = some o ∧ ∀ v, o.data ≠ .cell v) fp (Tn.obj _ _ tn3)
      have ipf : ∀ p ∈ ip, p.1 ∈ fp := fun p hp => by rw [← eip]; exact List.mem_map_of_mem hp
      have I3' : Inv (gxCx X N s2 H fp env B [(a, go)]) ((S, lstObj acc c) :: ip) (τ ++ cs) G' s3 := I3.pins_of fun p hp => by
        rcases List.mem_cons.mp hp with hp | hp
        · rw [hp]
          exact I3.pin (S, lstObj acc c) (List.mem_append_right _ List.mem_cons_self)
        · obtain ⟨h1, h2⟩ := hip p hp
          obtain ⟨q1, q2, q3⟩ := fpk p.1 (ipf p hp)
          exact ⟨h1, fn3 p.1 (ipf p hp), q1, q2, h2⟩
      have turnKeep : ∀ {σ' : L2.St} {G2 : Hp} {s4 : Shared}, Inv (gxCx X N s2 H fp env B [(a, go)]) ((S, lstObj acc c) :: ip) σ' G2 s4 → tn (i + 1) s4.heap ∧ ∀ b ∈ fp, G2 b = none := fun {σ' G2 s4} I4 => by
        refine ⟨Tn.keep _ _ _ tn3 fun b hb o e => ?_, fun b hb => ?_⟩
        · rw [← eip] at hb
          obtain ⟨p, hp, rfl⟩ := List.mem_map.mp hb
          have h1 := (hip p hp).1
          rw [h1] at e
          cases e
          exact (I4.pin p (List.mem_append_right _ (List.mem_cons_of_mem _ hp))).1
        · rw [← eip] at hb
          obtain ⟨p, hp, rfl⟩ := List.mem_map.mp hb
          exact (I4.pin p (List.mem_append_right _ (List.mem_cons_of_mem _ hp))).2.1
      refine seg_bind_wrap ?_
      rw [over_gen]
      refine wpAny_mono (tg.run _ s3 _ G' x u _ I3' rx (q x G' τ hτ hy)) (fun _ s4 ⟨σ4, G4, I4, ⟨τ', hτ', e4⟩, q4⟩ => ?_) fun _ _ z => z.elim
      subst e4
      refine seg_bind_wrap (wpAny_of_eq (a := true) (by rfl) ?_)
      rw [if_pos rfl]
      have yo : ∀ u, yieldOut env u = yieldValue u := fun u => by simp only [yieldOut, he, Bool.false_eq_true, if_false]
      simp only [yo]
      rw [Sem.bind_eq_wrap', Sem.bind_eq_wrap', Sem.wrap_wrap, Sem.wrap_wrap]
      refine seg_wrap ?_
      rw [over_gen]
      refine wpAny_mono (el.run _ s4 _ G4 _ I4 q4) (fun u5 s5 ⟨y, G5, I5, ry, w5⟩ => ?_) fun _ _ z => z.elim
      obtain ⟨n', rfl⟩ : ∃ n', n = n' + 1 := ⟨n - 1, by omega⟩
      have hpin5 := I5.pin (S, lstObj acc c) (List.mem_append_right _ List.mem_cons_self)
      have hgo := (I5.pin (a, go) (List.mem_append_left _ List.mem_cons_self)).1
      have sz : acc.size = ys.length := by
        have e1 := rv.length
        have e2 : acc.toList.length = acc.size := Array.length_toList
        omega
      obtain ⟨g1, ⟨nm, qn, g2⟩, g3⟩ := hg
      refine seg_at (seg_yield rfl rfl rfl ⟨I5.os, I5.bare, I5.nolimit, ⟨go, nm, qn, hgo, g1, g2, g3⟩, ⟨acc, c, hpin5.1, by omega⟩, fun z hz => ?_⟩)
      have GZ : GI (gxCx X N s2 H fp env B [(a, go)]) S ip (ys ++ [y]) (τ' ++ cs) G5 z := GI.woken (fun p hp => by rw [List.mem_singleton.mp hp]; exact Sa) (fun p hp e => Sf (by rw [← e]; exact ipf p hp)) hAp ⟨acc, c, rv, I5⟩ ry hz
      obtain ⟨acc', c', rv', IZ⟩ := GZ
      have tk : tn (i + 1) z.heap ∧ ∀ b ∈ fp, G5 b = none := by
        refine ⟨Tn.keep _ _ _ (turnKeep I5).1 fun b hb o e => hz.keep b o (fun e2 => Sf (by rw [← e2]; exact hb)) e, (turnKeep I5).2⟩
      refine seg_again rfl (ih n' (Nat.lt_succ_self _) (i + 1) (ys ++ [y]) τ' z z G5 hτ' (by rw [List.length_append, List.length_singleton]; omega) ⟨acc', c', rv', IZ.pins_of fun p hp => ?_⟩ tk.1 tk.2 w5)
      rw [List.mem_singleton.mp hp]
      exact IZ.pin (S, lstObj acc' c') (List.mem_append_right _ List.mem_cons_self)
theorem gx_start {env : Env} (he : env.scope.isCoroutine = false) (ho : (gxCx X N s2 H fp env B [(a, go)]).Ok) (hg : go.cls = .type "generator" ∧ (∃ nm qn, go.data = .fields #[.int g 0, nm, qn]) ∧ go.slots = #[])
    (Sa : a ≠ S) (Sf : S ∉ fp) (af : a ∉ fp) (hAp : L2.Apart (gxCx X N s2 H fp env B [(a, go)]) S) (fpk : ∀ b ∈ fp, b ≠ env.locals ∧ b ∉ frs X.stack ∧ ∀ x c, env.cells.lookup x = some c → c ≠ b)
    (Tn : Turn X.prog X.w X.K target J fp it tn) (tg : PG (gxCx X N s2 H fp env B [(a, go)]) target tgt) (el : PE (gxCx X N s2 H fp env B [(a, go)]) elt te)
    (wk : ∀ i ys G, W i ys G → (J.stop i G ∧ ys.length ≤ sizeLine ∧ Q ys G) ∨ (J.go i G ∧ ys.length < sizeLine ∧ ∀ x G' τ, τ.length = mm → J.yld i G x G' → tgt x (τ ++ cs) G' fun σ' G2 => (∃ τ' : L2.St, τ'.length = mm ∧ σ' = τ' ++ cs) ∧ te σ' G2 fun y G3 => W (i + 1) (ys ++ [y]) G3))
    {τ : L2.St} {s : Shared} {G : Hp} (hτ : τ.length = mm) (hI : GI (gxCx X N s2 H fp env B [(a, go)]) S [] [] (τ ++ cs) G s) (htn : tn 0 s.heap) (hf : ∀ b ∈ fp, G b = none) (hW : W 0 [] G) :
      Seg (model X.prog X.w) B (REnd X.prog X.w X.stack H s2 fp S a g Q (fun _ _ _ => False)) (YItem s2 S a g) sizeLine s (.compStart (.GeneratorExp elt [⟨target, iter, [], 0⟩] scope pos) 0 (.ref it) .none env)
        ((model X.prog X.w).den (.compStart (.GeneratorExp elt [⟨target, iter, [], 0⟩] scope pos) 0 (.ref it) .none env)) [] s := by
  have lp := gx_loop (iter := iter) (scope := scope) (pos := pos) he ho hg Sa Sf af hAp fpk Tn tg el wk sizeLine 0 [] τ s s G hτ (Nat.add_zero _) hI htn hf hW
  refine (?_ : Seg _ B _ _ _ s _ ((compStart (.GeneratorExp elt [⟨target, iter, [], 0⟩] scope pos) 0 (.ref it) .none env).onRaise (leaving env)) [] s)
  unfold compStart
  rw [Sem.onRaise_eq_wrap]
  refine (?_ : Seg _ B _ _ _ s _ ((ask >>= _).wrap _ _ _ _) [] s)
  refine seg_bind_wrap (wpAny_askSetting ?_)
  split
  · exact seg_again rfl lp
  · first
      | exact seg_bind_wrap (wpAny_rule (seg_bind_wrap (wpAny_standAt (seg_bind_wrap (Tn.self _ 0 s _ _ htn (seg_again rfl lp))))))
      | (refine seg_bind_wrap (wpAny_rule ?_); refine (?_ : Seg _ B _ _ _ s _ ((standAt iter.pos >>= _).wrap _ _ _ _) [] s); exact seg_bind_wrap (wpAny_standAt (seg_bind_wrap (Tn.self _ 0 s _ _ htn (seg_again rfl lp)))))
end
/-! ### the rule -/
section
open GenW
def tTupC (T : Addr) (wi : TI) (mm : Nat) (caps : List Nat) (tgt : TG) (te : TE) : TE := fun σ H Q => wi σ H fun J H1 => GxR.TabG H1 T ∧ ∀ H2, Grow H1 H2 → ∃ W : Nat → List V → Hp → Prop, W 0 [] H2 ∧ ∀ i ys G, W i ys G →
  (J.stop i G ∧ ys.length ≤ sizeLine ∧ ∀ t, G t = none → Q (.ref t) (upd G t (.tup ys))) ∨
  (J.go i G ∧ ys.length < sizeLine ∧ ∀ x G' τ, τ.length = mm → J.yld i G x G' → tgt x (τ ++ caps.map fun j => σ.getD j none) G' fun σ' G2 => (∃ τ' : L2.St, τ'.length = mm ∧ σ' = τ' ++ caps.map fun j => σ.getD j none) ∧ te σ' G2 fun y G3 => W (i + 1) (ys ++ [y]) G3)
variable {X : Cx}
theorem pe_tupC {c T : Addr} {elt target iter : Expr} {p pos gpos : Pos} {scope : Scope} {wi : TI} {tgt : TG} {te : TE} {k : Nat} {xs ys : List Str} {caps : List Nat}
    (hr : Room (k + 8) X.A) (hg : Gl X "tuple") (hm : X.mg "tuple" = none) (TB : GxR.TabB X.base X.mg c T) (hcode : X.env.code = .ref c) (S : GenC X.env scope) (hi : PI X target iter wi) (hs : ∀ v, genFold iter X.env v = pure v)
    (cap : capB X.N X.env.scope scope ys caps = true) (lc : ys.length = caps.length)
    (tg : ∀ (s2 : Shared) (G : Hp) (fp : List Addr) (C : Addr) (code : Value) (A : Around) (pn : List (Addr × Obj)), PG (gxCx X (xs ++ ys) s2 G fp (genEnv scope (cloFrom X.env.cells scope.names []) C code builtinsNs X.env) A pn) target tgt)
    (el : ∀ (s2 : Shared) (G : Hp) (fp : List Addr) (C : Addr) (code : Value) (A : Around) (pn : List (Addr × Obj)), Room k (A.deeper (genEnv scope (cloFrom X.env.cells scope.names []) C code builtinsNs X.env)) → PE (gxCx X (xs ++ ys) s2 G fp (genEnv scope (cloFrom X.env.cells scope.names []) C code builtinsNs X.env) A pn) elt te)
    (he : starEach [.GeneratorExp elt [⟨target, iter, [], 0⟩] scope gpos] X.env = (false, eval (.GeneratorExp elt [⟨target, iter, [], 0⟩] scope gpos) X.env) :: starEach [] X.env := by rfl) :
    PE X (.Call (.Name "tuple" p) [.GeneratorExp elt [⟨target, iter, [], 0⟩] scope gpos] [] pos) (tTupC T wi xs.length caps tgt te) := by
  refine ⟨fun pins s σ H Q I h => ?_⟩
  refine wpAny_Call_Name_kw (ld_blt I hg hm (show bootBuiltins "tuple" = some (.type "tuple") by decide +kernel) (PyProof.Rows.callWith_type1 ?_ he (by rfl)))
  rw [he]
  refine (?_ : wpAny _ _ (spliced ((false, eval (.GeneratorExp elt [⟨target, iter, [], 0⟩] scope gpos) X.env) :: backTo pos (starEach [] X.env))) _ _ s)
  refine Calls.spliced_cons (wpAny_GeneratorExp_make S.co (closure_ok S.free) S.cell S.dot S.kind (by have := hr.dp; omega) ?_ hs)
  refine thn (hi.run pins s σ H _ I h) fun xv s1 hw => thn hw fun itv s2 hpie => ?_
  obtain ⟨it, fp, tn, J, H1, rfl, I2, Tn, tn0, hfp, ⟨ps, hP, ht⟩, q⟩ := hpie
  have gP : s2.heap.get? T = some { cls := .none, data := .fields ps } := I2.hok T _ hP
  have Plt : T < s2.heap.objs.size := Heap.lt_size gP
  have cd : PySem.W.CodeHd s2.heap c T := TB.code.keeps fun b u e => I2.bk b u e
  have fpl : ∀ b ∈ fp, b < s2.heap.objs.size := fun b hb => by
    obtain ⟨o, ho, _⟩ := Tn.obj _ _ tn0 b hb
    exact Heap.lt_size ho
  have nfT : ∀ b ∈ fp, b ≠ T := fun b hb e => by
    have := (hfp b hb).1
    rw [e, hP] at this
    cases this
  refine ⟨I2.nolimit, ?_⟩
  have main : ∀ (code : Value) (h3 : Heap) (tk : Nat) (qs : Array Value), Heap.ExtBut T s2.heap h3 → s2.heap.objs.size ≤ h3.objs.size → h3.get? T = some { cls := .none, data := .fields qs } → (∃ more, qs = ps ++ more) → TriplesOk qs.toList →
      wpAny (model X.prog X.w) X.A (builtinsFor X.env.globals X.env.builtins) (fun bi s4 =>
        ∀ h', h'.Ns s4.heap.objs.size (fun y => if y = ".0" then some (Value.ref it) else none) → Heap.SameBut s4.heap.objs.size (s4.heap.push { cls := .type "frame", data := .dict #[] }) h' →
          wpAny (model X.prog X.w) X.A (spliced (backTo pos (starEach [] X.env))) (fun a_1 s' => wpAny (model X.prog X.w) X.A (call (.type "tuple") (.ref h'.objs.size :: a_1)) (EP X pins σ Q) X.xe s') X.xe
            { s4 with
              gens := s4.gens.push (.fresh (.compStart (.GeneratorExp elt [⟨target, iter, [], 0⟩] scope gpos) 0 (.ref it) .none (genEnv scope (cloFrom X.env.cells scope.names []) s4.heap.objs.size code bi X.env))),
              toks := s4.toks + 1 + 1 + 1,
              heap := h'.push { cls := .type "generator", data := .fields #[.int s4.gens.size 0, .str "<genexpr>" (s4.toks + 1), .str (X.env.qual ++ "<genexpr>") (s4.toks + 1 + 1)] } }) X.xe { s2 with heap := h3, toks := tk } := by
    intro code h3 tk qs hx hsz gP3 hmore ht3
    obtain ⟨bm, bo, e1, e2, e3, e4, e5, e6, e7, e8⟩ := TB.bm
    have kp3 : ∀ b u, b ≠ T → s2.heap.get? b = some u → h3.get? b = some u := fun b u hb e => hx b u hb e
    refine wpAny_builtinsFor (m := X.mg) (by rw [I2.ok.glob]; exact (I2.mod.glob.keeps I2.bk).extBut hx TB.gP) e1 e2 (kp3 _ _ e4 (I2.bk _ _ e5)) e6 e7 e8 ?_
    intro h' hn' hs'
    have hsz' : h'.objs.size = h3.objs.size + 1 := by rw [hs'.1, Heap.size_push]
    have keep' : ∀ b o, h3.get? b = some o → h'.get? b = some o := fun b o e => hs'.extBut b o (Nat.ne_of_lt (Heap.lt_size e)) (Heap.get?_push_of_some _ e)
    generalize hG : ({ cls := .type "generator", data := .fields #[.int s2.gens.size 0, .str "<genexpr>" (tk + 1), .str (X.env.qual ++ "<genexpr>") (tk + 1 + 1)] } : Obj) = go
    have hgo : go.cls = .type "generator" ∧ (∃ nm qn, go.data = .fields #[.int s2.gens.size 0, nm, qn]) ∧ go.slots = #[] := by
      subst hG
      exact ⟨rfl, ⟨_, _, rfl⟩, rfl⟩
    have keep5 : ∀ b o, h3.get? b = some o → (h'.push go).get? b = some o := fun b o e => Heap.get?_push_of_some _ (keep' b o e)
    have old5 : ∀ b o, b ≠ T → s2.heap.get? b = some o → (h'.push go).get? b = some o := fun b o hb e => keep5 b o (kp3 b o hb e)
    refine Calls.spliced_nil ?_
    obtain ⟨more, em⟩ := hmore
    have csP : cStatics ≠ T := fun e => by
      obtain ⟨_, hns, _⟩ := I2.nolimit
      obtain ⟨o', es, ep, ho, hd, _⟩ := hns
      rw [e, gP] at ho
      cases ho
      cases hd
    have Cge : s2.heap.objs.size ≤ h3.objs.size := hsz
    have ga : (h'.push go).get? h'.objs.size = some go := Heap.get?_push_size _ (by
      subst hG
      rfl)
    have gr : Grow H1 (upd H1 T (.tbl (ps ++ more))) := tup_grow (L := []) ⟨ps, hP, fun _ => by rw [← em]; exact ht3⟩ fun b hb => absurd hb (by simp)
    obtain ⟨W, w0, wk⟩ := q _ gr
    have F : GFresh X.prog X.w (k + 1) X.stack H1 s2 fp (fun ys G => ∀ t, G t = none → Q (.ref t) (upd G t (.tup ys))) h'.objs.size s2.gens.size (.compStart (.GeneratorExp elt [⟨target, iter, [], 0⟩] scope gpos) 0 (.ref it) .none (genEnv scope (cloFrom X.env.cells scope.names []) h3.objs.size code builtinsNs X.env))
        { s2 with gens := s2.gens.push (.fresh (.compStart (.GeneratorExp elt [⟨target, iter, [], 0⟩] scope gpos) 0 (.ref it) .none (genEnv scope (cloFrom X.env.cells scope.names []) h3.objs.size code builtinsNs X.env))), toks := tk + 1 + 1 + 1, heap := h'.push go } := by
      refine ⟨by show h'.objs.size < (h'.push go).objs.size; rw [Heap.size_push]; exact Nat.lt_succ_self _, ?_, Array.getElem?_push_size .., rfl, I2.bare.push rfl, (I2.nolimit.extBut hx csP).keeps keep5, ?_⟩
      · obtain ⟨g1, ⟨nm, qn, g2⟩, g3⟩ := hgo
        exact ⟨go, nm, qn, ga, g1, g2, g3⟩
      intro B Sx z hrB hfB hSx kz hSo hos hba
      have szz : (h'.push go).objs.size = h3.objs.size + 2 := by rw [Heap.size_push, hsz']
      have hSx' : h3.objs.size + 2 ≤ Sx := by
        have : (h'.push go).objs.size ≤ Sx := hSx
        omega
      obtain ⟨cS, heS⟩ := hSo
      have IZ := gx_inv (xs := xs) (pn := [(h'.objs.size, go)]) (pins' := [(Sx, lstObj #[] cS)]) (A := B) (code := code) (C := h3.objs.size) (z := z) (more := more) I2 S hfp fpl Cge hrB.hd hfB hP
        (fun b o hb e => kz b o (old5 b o hb e)) (by rw [← em]; exact kz _ _ (keep5 _ _ gP3)) hos hba ((hn'.push go).keeps kz) cap lc fun p hp => by
          rcases List.mem_append.mp hp with hp | hp
          · rw [List.mem_singleton.mp hp]
            refine ⟨kz _ _ ga, by show s2.heap.objs.size ≤ h'.objs.size; omega, Nat.ne_of_gt (show h3.objs.size < h'.objs.size by omega), fun v e => ?_⟩
            obtain ⟨_, ⟨nm, qn, g2⟩, _⟩ := hgo
            have e' : go.data = .cell v := e
            rw [g2] at e'
            cases e'
          · rw [List.mem_singleton.mp hp]
            exact ⟨heS, by show s2.heap.objs.size ≤ Sx; omega, Nat.ne_of_gt (show h3.objs.size < Sx by omega), fun v e => by cases e⟩
      refine gx_start (W := W) (mm := xs.length) (cs := caps.map fun j => σ.getD j none) (tgt := tgt) (te := te) (J := J) (τ := List.replicate xs.length none) S.co IZ.ok hgo (Nat.ne_of_lt (show h'.objs.size < Sx by omega)) (fun hb => ?_) (fun hb => ?_) ⟨?_, ?_, fun x c' e => ?_⟩ (fun b hb => ⟨?_, ?_, fun x c' e => ?_⟩) Tn (tg _ _ _ _ _ _ _) (el _ _ _ _ _ _ _ (hrB.deeper _)) wk (List.length_replicate ..) ⟨#[], cS, .nil, IZ⟩ ?_ (fun b hb => ?_) w0
      · exact Nat.lt_irrefl _ (Nat.lt_of_lt_of_le (fpl _ hb) (show s2.heap.objs.size ≤ Sx by omega))
      · exact Nat.lt_irrefl _ (Nat.lt_of_lt_of_le (fpl _ hb) (show s2.heap.objs.size ≤ h'.objs.size by omega))
      · show s2.heap.objs.size ≤ Sx
        omega
      · exact Nat.ne_of_gt (show h3.objs.size < Sx by omega)
      · have e' : X.env.cells.lookup x = some c' := S.clo e
        obtain ⟨v, o, ho, _⟩ := I2.cell x c' e'
        have := Heap.lt_size ho
        exact Nat.ne_of_lt (Nat.lt_of_lt_of_le this (show s2.heap.objs.size ≤ Sx by omega))
      · exact Nat.ne_of_lt (Nat.lt_of_lt_of_le (fpl _ hb) Cge)
      · intro hm'
        rcases List.mem_cons.mp (I2.stkSub b hm') with e | e
        · exact (hfp b hb).2.1 e
        · exact (hfp b hb).2.2.1 e
      · exact (hfp b hb).2.2.2.2.1 x c' (S.clo e)
      · exact Tn.keep _ _ _ tn0 fun b hb o e => kz b o (old5 b o (nfT b hb) e)
      · rw [upd_ne (nfT b hb)]
        exact (hfp b hb).1
    refine gx_tuple (k := k + 1) (outer := X.stack) (hr.mono (by omega)) I2.ok.frames F fun s' acc t => ?_
    obtain ⟨G, yv, rv, ly, os, bare, un, hok, qq⟩ := t
    have K : Inv X pins σ G s' := I2.call' (ch := fp) os un hok bare fun b hb => ⟨(hfp b hb).2.2.2.1, (hfp b hb).2.1, (hfp b hb).2.2.2.2.1, (hfp b hb).2.2.2.2.2⟩
    have fresh := K.hok.fresh (Nat.le_refl s'.heap.objs.size)
    refine ⟨.ref _, _, K.laid (t' := s'.toks) (o := .tup yv) (fun b o' z => Heap.get?_push_of_some _ z) (Nat.le_refl _) ⟨ly, acc.toList, rv, _, Heap.get?_push_size _ rfl, rfl, _, by rw [Array.toArray_toList]⟩, rfl, qq _ fresh⟩
  cases hf : codeAmong gpos ps.toList with
  | none =>
    refine wpAny_genexprCodeX hcode (cd.code gP ht) (cd.tab gP) hf fun c' h' tk hx hge hlt hco' _ htab' _ => ?_
    obtain ⟨_, _, _, _, _, _, _, _, _, _, _, _, _, _, _, _, _, _, _, htr, _⟩ := hco'
    exact main _ h' tk _ hx (Nat.le_trans hge (Nat.le_of_lt hlt)) htab'.2 ⟨_, rfl⟩ htr
  | some cv =>
    refine wpAny_genexprCode_hit hcode (cd.code gP ht) hf ?_
    exact main cv s2.heap s2.toks ps (Heap.ExtBut.refl _ _) (Nat.le_refl _) gP ⟨#[], by simp⟩ ht
end
/-! ### for x in (one tuple if .. else another) -/
theorem for_tif {K : PySem.W.Frag} {c : TT} {a b : TE} {g : TG} {tb : TS} {D : Ends} {σ : L2.St} {H : Hp} (C : Addr → Hp → Prop) (h : ∀ Qd : VK, (∀ q H1, C q H1 → Qd (.ref q) H1) → tIf c a b σ H Qd)
    (m : ∀ q H1, C q H1 → (∃ xs, SqT K H1 q xs) ∧ ∃ W : Nat → Nat → L2.St → Hp → Prop, (∃ m, W 0 m σ H1) ∧ ∀ i m σ H, W i m σ H →
      ((Itt K q).stop i H ∧ D.nx σ H) ∨ ((Itt K q).go i H ∧ ∃ N : L2.St → Hp → Prop, (∀ σ' H', N σ' H' → ∃ m', m' < m ∧ W (i + 1) m' σ' H') ∧ ∀ x H', (Itt K q).yld i H x H' → g x σ H' fun σ2 H2 => tb { D with nx := N, ct := N, bk := D.nx } σ2 H2)) :
    tFor (iTup K (tIf c a b)) g tb D σ H := h _ fun q H1 hc => ⟨q, rfl, m q H1 hc⟩
theorem gName_in {i : Nat} {v : V} {σ : L2.St} {H : Hp} {Q : L2.St → Hp → Prop} (h : Q (σ.set i (some v)) H) : gName i v σ H Q := h
theorem tSeq_in {t u : TS} {D : Ends} {σ : L2.St} {H : Hp} (h : t { D with nx := u D } σ H) : tSeq t u D σ H := h
/-! ### list.extend(tuple), whatever tuple object -/
section
open PySem.Builtin.List in
theorem extend_by_tuple (l b : Addr) (xs ys : Array Value) (n : Nat) (long : ¬ (!xs.isEmpty && listTooLong (xs.size + ys.size)) = true) (z1 : xs.size ≤ sizeLine) (z2 : (xs ++ ys).size ≤ sizeLine + 1) :
    Meets (Builtin.«list.extend» ⟨[.ref l, .ref b], []⟩) (fun _ R s => s.heap.get? l = some { cls := .type "list", dict := none, data := .seq xs n, slots := #[] } ∧ IsTup s.heap b ys ∧ R (.ok (.ret Value.none)) { s with heap := s.heap.update l (Obj.mapSeq fun x => x ++ ys), toks := s.toks }) :=
  .of_wp fun prog w A R s ⟨hl, ⟨o, ho, hc, m, hd⟩, h⟩ => by
    unfold Builtin.«list.extend»
    refine wpAny_bind (wpAny_pure ?_)
    unfold listExtendWith
    refine wpAny_bind (wpAny_typeOf ⟨o, ho, hc⟩ ?_)
    have t : (listSameRef (.ref l) (.ref b) || Value.type "tuple" == Value.type "list" || Value.type "tuple" == Value.type "tuple") = true := by simp
    simp only [t, if_true]
    refine wpAny_bind ?_
    unfold listItems
    refine wpAny_bind (wpAny_seqItems ho hd (wpAny_pure ?_))
    refine wpAny_bind ?_
    refine wpAny_bind (wpAny_seqItems hl rfl (wpAny_pure ?_))
    rw [if_neg long]
    show wpAny _ A.in1 (updateSeq l (· ++ ys) >>= fun _ => ret Value.none) _ _ s
    refine wpAny_bind (wpAny_updateSeq hl rfl (hz := z1) (_hz' := z2) ?_)
    exact wpAny_pure ⟨_, rfl, h⟩
variable {X : Cx}
def rExtendT (K : PySem.W.Frag) : V → List V → Hp → VK → Prop := fun x vs H Q => ∃ (l b : Addr) (xs zs : List V), x = .ref l ∧ vs = [.ref b] ∧ H l = some (.lst xs) ∧ SqT K H b zs ∧ xs.length + zs.length ≤ sizeLine ∧ Q .non (upd H l (.lst (xs ++ zs)))
theorem mt_extendT : MtM X "list.extend" (rExtendT X.K) := by
  rintro pins s σ H x vs v us Q I rx rv ⟨l, b, xs, zs, rfl, rfl, hH, hB, hz, q⟩
  cases rx
  obtain ⟨u, rfl, ru⟩ := rv.one
  cases ru
  obtain ⟨_, its, n, r, hl, at1⟩ := I.lstM hH
  obtain ⟨its2, r2, tup2, _⟩ := I.tuple hB
  have l2 := r2.length
  have small : its.toArray.size + its2.toArray.size ≤ sizeLine := by rw [List.size_toArray, List.size_toArray]; omega
  have fits : ¬ (!its.toArray.isEmpty && Builtin.List.listTooLong (its.toArray.size + its2.toArray.size)) = true := by
    rw [notLongL small, Bool.and_false]
    exact Bool.false_ne_true
  refine call_meets F.slot_list_extend ⟨_, at1, rfl⟩ F.entry_list_extend (F.args_list_extend_2 _ _)
    (extend_by_tuple l b its.toArray its2.toArray n fits (by rw [List.size_toArray]; omega) (by rw [Array.size_append]; omega)) ⟨at1, tup2, ?_⟩
  refine ⟨.non, _, I.lset (its' := its ++ its2) hH at1 (by simp) (r.append r2) ?_, rfl, q⟩
  rw [List.length_append]
  omega
end
/-! ### dicts whose keys are such data -/
/-- the dict at a, but for what its keys are: (key, where its tuple stands, value) in the order of insertion -/
def DictN (w : World) (h : Heap) (a : Addr) (L : List (PyData × Addr × V)) : Prop :=
  (a == sysModules) = false ∧ L.length ≤ sizeLine ∧ ∃ xs : List (NestedKey × Addr × Value), Paired (fun (p : PyData × Addr × V) (q : NestedKey × Addr × Value) => q.1 = keyOf p.1 ∧ q.2.1 = p.2.1 ∧ RelV p.2.2 q.2.2) L xs ∧
  ∃ (o : Obj) (es : Array DictEntry) (ep : Nat), h.get? a = some o ∧ o.ExactDict ∧ o.data = .dict es ep ∧ es.toList = xs.map (fun x => (⟨x.1.hash w, .ref x.2.1, x.2.2⟩ : DictEntry)) ∧ (xs.map (·.1)).Nodup
def DictKO (w : World) (a : Addr) (L : List (PyData × Addr × V)) : HO := .ext fun h => DictN w h a L
theorem dictKO_new {P : Program} {w : World} {H : Hp} {h : Heap} {a : Addr} {L : List (PyData × Addr × V)} (R : DictN w h a L) : ObjOk P w H h a (DictKO w a L) := by
  obtain ⟨_, _, _, _, o, _, _, at1, _⟩ := id R
  refine ⟨R, ⟨o, at1⟩, fun h1 h2 p k => ?_⟩
  obtain ⟨q0, q1, xs, q2, u, es, ep, at2, q3⟩ := p
  exact ⟨q0, q1, xs, q2, u, es, ep, k u at2, q3⟩
/-- each key stands where it is said to -/
def KeysD (K : PySem.W.Frag) (H : Hp) (L : List (PyData × Addr × V)) : Prop := ∀ p ∈ L, isKeyD p.1 = true ∧ p.1.depth ≤ 8 ∧ Dp K H (.ref p.2.1) p.1
/-- what the dict is behind d[k] = v -/
def PutD (L : List (PyData × Addr × V)) (d : PyData) (b : Addr) (v : V) (M : List (PyData × Addr × V)) : Prop :=
  (d ∉ L.map Prod.fst ∧ M = L ++ [(d, b, v)]) ∨ (d ∈ L.map Prod.fst ∧ M = L.map fun p => if keyOf p.1 = keyOf d then (p.1, p.2.1, v) else p)
section
variable {X : Cx} {pins : List (Addr × Obj)} {σ : L2.St} {H : Hp} {s : Shared} {a : Addr} {L : List (PyData × Addr × V)}
abbrev KV3 (L : List (PyData × Addr × V)) (xs : List (NestedKey × Addr × Value)) : Prop := Paired (fun (p : PyData × Addr × V) (q : NestedKey × Addr × Value) => q.1 = keyOf p.1 ∧ q.2.1 = p.2.1 ∧ RelV p.2.2 q.2.2) L xs
theorem kv3_keys : ∀ {L : List (PyData × Addr × V)} {xs : List (NestedKey × Addr × Value)}, KV3 L xs → xs.map (·.1) = L.map fun p => keyOf p.1
  | _, _, .nil => rfl
  | _, _, .cons r t => by rw [List.map_cons, List.map_cons, kv3_keys t, r.1]
theorem kv3_len : ∀ {L : List (PyData × Addr × V)} {xs : List (NestedKey × Addr × Value)}, KV3 L xs → L.length = xs.length
  | _, _, .nil => rfl
  | _, _, .cons _ t => by rw [List.length_cons, List.length_cons, kv3_len t]
theorem kv3_mem : ∀ {L : List (PyData × Addr × V)} {xs : List (NestedKey × Addr × Value)}, KV3 L xs → ∀ q ∈ xs, ∃ p ∈ L, q.1 = keyOf p.1 ∧ q.2.1 = p.2.1 ∧ RelV p.2.2 q.2.2
  | _, _, .nil, _, h => by cases h
  | _, _, .cons (a := p) r t, q, h => by
    rcases List.mem_cons.mp h with rfl | h
    · exact ⟨p, List.mem_cons_self, r⟩
    · obtain ⟨p, hp, e⟩ := kv3_mem t q h
      exact ⟨p, List.mem_cons_of_mem _ hp, e⟩
theorem kv3_back : ∀ {L : List (PyData × Addr × V)} {xs : List (NestedKey × Addr × Value)}, KV3 L xs → ∀ p ∈ L, ∃ q ∈ xs, q.1 = keyOf p.1 ∧ q.2.1 = p.2.1 ∧ RelV p.2.2 q.2.2
  | _, _, .nil, _, h => by cases h
  | _, _, .cons (b := q) r t, p, h => by
    rcases List.mem_cons.mp h with rfl | h
    · exact ⟨q, List.mem_cons_self, r⟩
    · obtain ⟨q, hq, e⟩ := kv3_back t p h
      exact ⟨q, List.mem_cons_of_mem _ hq, e⟩
theorem kv3_snoc : ∀ {L : List (PyData × Addr × V)} {xs : List (NestedKey × Addr × Value)} {p : PyData × Addr × V} {q : NestedKey × Addr × Value}, KV3 L xs → (q.1 = keyOf p.1 ∧ q.2.1 = p.2.1 ∧ RelV p.2.2 q.2.2) → KV3 (L ++ [p]) (xs ++ [q])
  | _, _, _, _, .nil, h => .cons h .nil
  | _, _, _, _, .cons r t, h => .cons r (kv3_snoc t h)
theorem kv3_put {k : NestedKey} {v : V} {u : Value} (rv : RelV v u) : ∀ {L : List (PyData × Addr × V)} {xs : List (NestedKey × Addr × Value)}, KV3 L xs → KV3 (L.map fun p => if keyOf p.1 = k then (p.1, p.2.1, v) else p) (xs.map (putAt k u))
  | _, _, .nil => .nil
  | _, _, .cons (a := p) (b := q) r t => by
    refine .cons ?_ (kv3_put rv t)
    unfold putAt
    dsimp only
    by_cases e : keyOf p.1 = k
    · rw [if_pos e, if_pos (r.1.trans e)]
      exact ⟨r.1, r.2.1, rv⟩
    · rw [if_neg e, if_neg fun z => e (r.1.symm.trans z)]
      exact r
theorem dictN_open (I : Inv X pins σ H s) (e : H a = some (DictKO X.w a L)) (hk : KeysD X.K H L) : (a == sysModules) = false ∧ L.length ≤ sizeLine ∧ ∃ xs, KV3 L xs ∧ s.heap.DictOfH (nestedKind X.prog X.w) a xs := by
  obtain ⟨q0, q1, xs, rel, o, es, ep, at1, ex, dat, rows, nd⟩ := (show DictN X.w s.heap a L from (I.hok a _ e).1)
  refine ⟨q0, q1, xs, rel, o, es, ep, at1, ex, dat, rows, fun x hx => ?_, nd⟩
  obtain ⟨p, hp, e1, e2, _⟩ := kv3_mem rel x hx
  obtain ⟨k1, k2, k3⟩ := hk p hp
  have := key_at I k1 k2 k3
  rw [e1, e2]
  exact ⟨this.is, this.low⟩
theorem atKey_iff {xs : List (NestedKey × Addr × Value)} {k : NestedKey} : (atKey xs k).isSome = true ↔ k ∈ xs.map (·.1) := by
  unfold atKey
  rw [Option.isSome_map, List.find?_isSome]
  constructor
  · rintro ⟨x, hx, e⟩
    exact List.mem_map.mpr ⟨x, hx, of_decide_eq_true e⟩
  · intro h
    obtain ⟨x, hx, e⟩ := List.mem_map.mp h
    exact ⟨x, hx, decide_eq_true e⟩
theorem key_there (hk : KeysD X.K H L) {d : PyData} (kd : isKeyD d = true) : keyOf d ∈ (L.map fun p => keyOf p.1) ↔ d ∈ L.map Prod.fst := by
  constructor
  · intro h
    obtain ⟨p, hp, e⟩ := List.mem_map.mp h
    exact List.mem_map.mpr ⟨p, hp, keyOf_inj _ _ (hk p hp).1 kd e⟩
  · intro h
    obtain ⟨p, hp, rfl⟩ := List.mem_map.mp h
    exact List.mem_map.mpr ⟨p, hp, rfl⟩
theorem atKey_of {xs : List (NestedKey × Addr × Value)} (nd : (xs.map (·.1)).Nodup) {q : NestedKey × Addr × Value} (h : q ∈ xs) : atKey xs q.1 = some q.2 := by
  unfold atKey
  induction xs with
  | nil => cases h
  | cons x xs ih =>
    rw [List.map_cons, List.nodup_cons] at nd
    rcases List.mem_cons.mp h with rfl | h
    · rw [List.find?_cons_of_pos (by simp)]
      rfl
    · have ne : x.1 ≠ q.1 := fun e => nd.1 (by rw [e]; exact List.mem_map.mpr ⟨q, h, rfl⟩)
      rw [List.find?_cons_of_neg (by simpa using ne)]
      exact ih nd.2 h
/-- what a key of a search is -/
abbrev IsKeyAt (K : PySem.W.Frag) (H : Hp) (b : Addr) (d : PyData) : Prop := isKeyD d = true ∧ d.depth ≤ 8 ∧ Dp K H (.ref b) d
theorem IsKeyAt.is (I : Inv X pins σ H s) {b : Addr} {d : PyData} (h : IsKeyAt X.K H b d) : (nestedKind X.prog X.w).is s.heap (keyOf d) b :=
  let k := key_at I h.1 h.2.1 h.2.2
  ⟨k.is, k.low⟩
variable {A : Around} {E : Value → Shared → Prop} {b : Addr} {d : PyData} {v : V}
theorem n_getItem {Q : Value → Shared → Prop} (hu : A.units + 64 < cLine) (I : Inv X pins σ H s) (e : H a = some (DictKO X.w a L)) (hk : KeysD X.K H L) (kd : IsKeyAt X.K H b d) {c : Addr} (m : (d, c, v) ∈ L) (h : ∀ w' s', Inv X pins σ H s' → RelV v w' → Q w' s') :
    wpAny (model X.prog X.w) A (getItem (.ref a) (.ref b)) Q E s := by
  obtain ⟨q0, q1, xs, rel, dd⟩ := dictN_open I e hk
  obtain ⟨q, hq, e1, e2, e3⟩ := kv3_back rel _ m
  obtain ⟨_, _, _, _, _, _, _, _, nd⟩ := id dd
  have z := atKey_of nd hq
  rw [e1] at z
  exact wpAny_getItem_heap (show A.in1.units + 8 < cLine by rw [Around.in1_units]; omega) (kd.is I) dd z (h _ _ (I.tok _) e3)
theorem n_in {Q : Value → Shared → Prop} (hu : A.units + 64 < cLine) (I : Inv X pins σ H s) (e : H a = some (DictKO X.w a L)) (hk : KeysD X.K H L) (kd : IsKeyAt X.K H b d) (h : ∀ c s', (c = true ↔ d ∈ L.map Prod.fst) → Inv X pins σ H s' → Q (.bool c) s') :
    wpAny (model X.prog X.w) A (compareOp .In (.ref b) (.ref a)) Q E s := by
  obtain ⟨q0, q1, xs, rel, dd⟩ := dictN_open I e hk
  refine wpAny_in_heap (show A.in1.units + 8 < cLine by rw [Around.in1_units]; omega) (kd.is I) q0 dd (h _ _ ?_ (I.tok _))
  rw [atKey_iff, kv3_keys rel, key_there hk kd.1]
theorem n_notIn {Q : Value → Shared → Prop} (hu : A.units + 64 < cLine) (I : Inv X pins σ H s) (e : H a = some (DictKO X.w a L)) (hk : KeysD X.K H L) (kd : IsKeyAt X.K H b d) (h : ∀ c s', (c = true ↔ d ∉ L.map Prod.fst) → Inv X pins σ H s' → Q (.bool c) s') :
    wpAny (model X.prog X.w) A (compareOp .NotIn (.ref b) (.ref a)) Q E s := by
  obtain ⟨q0, q1, xs, rel, dd⟩ := dictN_open I e hk
  refine wpAny_notIn_heap (show A.in1.units + 8 < cLine by rw [Around.in1_units]; omega) (kd.is I) q0 dd (h _ _ ?_ (I.tok _))
  rw [← key_there hk kd.1, ← kv3_keys rel, ← atKey_iff]
  cases (atKey xs (keyOf d)).isSome <;> simp
theorem n_setItem {u : Value} {Q : Unit → Shared → Prop} (hu : A.units + 64 < cLine) (I : Inv X pins σ H s) (e : H a = some (DictKO X.w a L)) (hk : KeysD X.K H L) (kd : IsKeyAt X.K H b d) (few : L.length < sizeLine) (rv : RelV v u)
    (h : ∀ M s', PutD L d b v M → Inv X pins σ (upd H a (DictKO X.w a M)) s' → Q () s') : wpAny (model X.prog X.w) A (setItem (.ref a) (.ref b) u) Q E s := by
  obtain ⟨q0, q1, xs, rel, dd⟩ := dictN_open I e hk
  refine wpAny_setItem_heap (hsz := by rw [← kv3_len rel]; exact q1) (show A.in1.units + 8 < cLine by rw [Around.in1_units]; omega) (kd.is I) dd fun h' dd' hs => ?_
  obtain ⟨o, es, ep, at1, ex, dat, rows, _, nd⟩ := dd'
  have key : (atKey xs (keyOf d)).isSome = true ↔ d ∈ L.map Prod.fst := by rw [atKey_iff, kv3_keys rel, key_there hk kd.1]
  have wr : ∀ {M : List (PyData × Addr × V)}, M.length ≤ sizeLine → KV3 M (storedH xs (keyOf d) b u) → PutD L d b v M → Q () { s with heap := h', toks := s.toks + (nestedKind X.prog X.w).draws (keyOf d) } := fun ml r p =>
    h _ _ p (d_write I (by rw [e]; exact True.intro) hs ⟨o, at1⟩ (dictKO_new ⟨q0, ml, _, r, o, es, ep, at1, ex, dat, rows, nd⟩))
  cases z : atKey xs (keyOf d) with
  | none =>
    have n : d ∉ L.map Prod.fst := fun m => by
      have := key.mpr m
      rw [z] at this
      cases this
    rw [storedH_new z] at wr
    exact wr (M := L ++ [(d, b, v)]) (by rw [List.length_append, List.length_singleton]; omega) (kv3_snoc rel ⟨rfl, rfl, rv⟩) (.inl ⟨n, rfl⟩)
  | some p =>
    have y : d ∈ L.map Prod.fst := key.mp (by rw [z]; rfl)
    rw [storedH_old z] at wr
    exact wr (by rw [List.length_map]; exact q1) (kv3_put rv rel) (.inr ⟨y, rfl⟩)
end
/-! ### such dicts in a frame -/
def tNNew (w : World) : TE := fun _ H Q => ∀ p, H p = none → Q (.ref p) (upd H p (DictKO w p []))
/-- d[k] -/
def tNGet (K : PySem.W.Frag) (w : World) (td ty : TE) : TE := fun σ H Q => td σ H fun x H1 => ty σ H1 fun y H2 => ∃ (a : Addr) (L : List (PyData × Addr × V)) (b : Addr) (d : PyData) (c : Addr) (v : V), x = .ref a ∧ y = .ref b ∧ H2 a = some (DictKO w a L) ∧ KeysD K H2 L ∧ IsKeyAt K H2 b d ∧ (d, c, v) ∈ L ∧ Q v H2
/-- k in d, k not in d -/
def tNIn (K : PySem.W.Frag) (w : World) (ty td : TE) : TE := fun σ H Q => ty σ H fun y H1 => td σ H1 fun x H2 => ∃ (a : Addr) (L : List (PyData × Addr × V)) (b : Addr) (d : PyData), x = .ref a ∧ y = .ref b ∧ H2 a = some (DictKO w a L) ∧ KeysD K H2 L ∧ IsKeyAt K H2 b d ∧ ∀ c : Bool, (c = true ↔ d ∈ L.map Prod.fst) → Q (.bl c) H2
def tNNotIn (K : PySem.W.Frag) (w : World) (ty td : TE) : TE := fun σ H Q => ty σ H fun y H1 => td σ H1 fun x H2 => ∃ (a : Addr) (L : List (PyData × Addr × V)) (b : Addr) (d : PyData), x = .ref a ∧ y = .ref b ∧ H2 a = some (DictKO w a L) ∧ KeysD K H2 L ∧ IsKeyAt K H2 b d ∧ ∀ c : Bool, (c = true ↔ d ∉ L.map Prod.fst) → Q (.bl c) H2
/-- d[k] = v -/
def sNPut (K : PySem.W.Frag) (w : World) (td ty tv : TE) : TS := fun D σ H => tv σ H fun v H1 => td σ H1 fun x H2 => ty σ H2 fun y H3 => ∃ (a : Addr) (L : List (PyData × Addr × V)) (b : Addr) (d : PyData), x = .ref a ∧ y = .ref b ∧ H3 a = some (DictKO w a L) ∧ KeysD K H3 L ∧ IsKeyAt K H3 b d ∧ L.length < sizeLine ∧ ∀ M, PutD L d b v M → D.nx σ (upd H3 a (DictKO w a M))
/-- d[k] op= v -/
def sNAug (K : PySem.W.Frag) (w : World) (td ty tv : TE) (rd : V → V → Hp → VK → Prop) : TS := fun D σ H => td σ H fun x H1 => ty σ H1 fun y H2 => ∃ (a : Addr) (L : List (PyData × Addr × V)) (b : Addr) (d : PyData) (c : Addr) (v : V), x = .ref a ∧ y = .ref b ∧ H2 a = some (DictKO w a L) ∧ KeysD K H2 L ∧ IsKeyAt K H2 b d ∧ (d, c, v) ∈ L ∧
  tv σ H2 fun y2 H3 => rd v y2 H3 fun z H4 => ∃ L2, H4 a = some (DictKO w a L2) ∧ KeysD K H4 L2 ∧ IsKeyAt K H4 b d ∧ L2.length < sizeLine ∧ ∀ M, PutD L2 d b z M → D.nx σ (upd H4 a (DictKO w a M))
section
variable {X : Cx} {o i e value : Expr} {pos pos' tpos : Pos} {td ty tv : TE}
theorem dictN_empty {w : World} (h : Heap) (hb : sysModules < h.objs.size) : DictN w (h.push { cls := .type "dict", data := .dict #[] }) h.objs.size [] :=
  ⟨beq_eq_false_iff_ne.mpr (Ne.symm (Nat.ne_of_lt hb)), Nat.zero_le _, [], .nil, _, #[], 0, Heap.get?_push_size _ rfl, ⟨rfl, rfl, rfl⟩, rfl, rfl, List.nodup_nil⟩
theorem pe_nnew : PE X (.Dict [] [] pos) (tNNew X.w) := ⟨fun pins s σ H Q I h =>
  wpAny_Dict_empty ⟨.ref s.heap.objs.size, _, I.laid (a := s.heap.objs.size) (o := DictKO X.w s.heap.objs.size []) (t' := s.toks) (fun _ _ q => Heap.get?_push_of_some _ q) (Nat.le_refl _) (dictKO_new (dictN_empty s.heap I.big)), rfl, h _ (I.hok.fresh (Nat.le_refl _))⟩⟩
theorem dictN_is {pins : List (Addr × Obj)} {σ : L2.St} {H : Hp} {s : Shared} {a : Addr} {L : List (PyData × Addr × V)} (I : Inv X pins σ H s) (e : H a = some (DictKO X.w a L)) (hk : KeysD X.K H L) : s.TypeIs (.ref a) "dict" := by
  obtain ⟨_, _, xs, _, dd⟩ := dictN_open I e hk
  exact dd.typeIs
theorem pe_nget (hu : X.A.units + 64 < cLine) (ho : PE X o td) (hi : PE X i ty) (hs : NoSl i) : PE X (.Subscript o i pos) (tNGet X.K X.w td ty) := by
  refine ⟨fun pins s σ H Q I h => ?_⟩
  refine subD_of PySem.F.slot_dict_getitem.lookup hs (thn (ho.run pins s σ H _ I h) fun u s1 ⟨x, H1, I1, rx, q1⟩ => thn (hi.run pins s1 σ H1 _ I1 q1) fun iv s2 ⟨y, H2, I2, ry, a, L, b, d, c, v, ex, ey, e, hk, kd, m, q2⟩ => ?_)
  subst ex ey
  obtain rfl : u = Value.ref a := rx
  obtain rfl : iv = Value.ref b := ry
  exact ⟨dictN_is I2 e hk, n_getItem hu I2 e hk kd m fun w' s3 I3 rw' => ⟨v, H2, I3, rw', q2⟩⟩
theorem pc_nin (hu : X.A.units + 64 < cLine) (hi : PE X i ty) (ho : PE X o td) : PC X .In i o (tNIn X.K X.w ty td) := by
  refine ⟨fun pins s σ H Q I h => ?_⟩
  refine thn (hi.run pins s σ H _ I h) fun iv s1 ⟨y, H1, I1, ry, q1⟩ => thn (ho.run pins s1 σ H1 _ I1 q1) fun u s2 ⟨x, H2, I2, rx, a, L, b, d, ex, ey, e, hk, kd, q2⟩ => ?_
  subst ex ey
  obtain rfl : u = Value.ref a := rx
  obtain rfl : iv = Value.ref b := ry
  exact n_in hu I2 e hk kd fun c s3 hc I3 => ⟨.bl c, H2, I3, rfl, q2 c hc⟩
theorem pc_nnotin (hu : X.A.units + 64 < cLine) (hi : PE X i ty) (ho : PE X o td) : PC X .NotIn i o (tNNotIn X.K X.w ty td) := by
  refine ⟨fun pins s σ H Q I h => ?_⟩
  refine thn (hi.run pins s σ H _ I h) fun iv s1 ⟨y, H1, I1, ry, q1⟩ => thn (ho.run pins s1 σ H1 _ I1 q1) fun u s2 ⟨x, H2, I2, rx, a, L, b, d, ex, ey, e, hk, kd, q2⟩ => ?_
  subst ex ey
  obtain rfl : u = Value.ref a := rx
  obtain rfl : iv = Value.ref b := ry
  exact n_notIn hu I2 e hk kd fun c s3 hc I3 => ⟨.bl c, H2, I3, rfl, q2 c hc⟩
theorem ps_nput (hu : X.A.units + 64 < cLine) (ho : PE X o td) (hi : PE X i ty) (hv : PE X value tv) (hs : swapsWith value (some (.Subscript o i pos')) pos.line X.env = pure false) :
    PS X (.Assign [.Subscript o i pos'] value pos) (sNPut X.K X.w td ty tv) := by
  refine ⟨fun pins s σ H D I h => ?_⟩
  refine wpAny_Assign_Subscript (thn (hv.run pins s σ H _ I h) fun r s1 ⟨v, H1, I1, rv, q1⟩ => thn (ho.run pins s1 σ H1 _ I1 q1) fun u s2 ⟨x, H2, I2, rx, q2⟩ => thn (hi.run pins s2 σ H2 _ I2 q2) fun iv s3 ⟨y, H3, I3, ry, a, L, b, d, ex, ey, e, hk, kd, few, q3⟩ => ?_) hs
  subst ex ey
  obtain rfl : u = Value.ref a := rx
  obtain rfl : iv = Value.ref b := ry
  exact n_setItem hu I3 e hk kd few rv fun M s4 hM I4 => ⟨σ, _, I4, q3 M hM⟩
theorem ps_naug {op : Operator} {rd : V → V → Hp → VK → Prop} (hu : X.A.units + 64 < cLine) (ho : PE X o td) (hi : PE X i ty) (hv : PE X value tv) (hop : InOp X op rd)
    (ha : ∀ ov iv new, augStore i ov iv new = (do holding [new, ov, iv] (setItem ov iv new); release [new, ov, iv] []; pure .next)) : PS X (.AugAssign (.Subscript o i tpos) op value pos) (sNAug X.K X.w td ty tv rd) := by
  refine ⟨fun pins s σ H D I h => ?_⟩
  refine wpAny_AugAssign_SubscriptAny (thn (ho.run pins s σ H _ I h) fun u s1 ⟨x, H1, I1, rx, q1⟩ => thn (hi.run pins s1 σ H1 _ I1 q1) fun iv s2 ⟨y, H2, I2, ry, a, L, b, d, c, v, ex, ey, e, hk, kd, m, q2⟩ => ?_) ha
  subst ex ey
  obtain rfl : u = Value.ref a := rx
  obtain rfl : iv = Value.ref b := ry
  refine n_getItem hu I2 e hk kd m fun w' s3 I3 rw' => thn (hv.run pins s3 σ H2 _ I3 q2) fun w2 s4 ⟨y2, H3, I4, ry2, q3⟩ => thn (hop pins s4 σ H3 v y2 w' w2 _ I4 rw' ry2 q3) fun w3 s5 ⟨z, H4, I5, rz, L2, e5, hk5, kd5, few, q4⟩ => ?_
  exact n_setItem hu I5 e5 hk5 kd5 few rz fun M s6 hM I6 => ⟨σ, _, I6, q4 M hM⟩
/-- list(d) -/
def rListN (K : PySem.W.Frag) (w : World) : List V → Hp → VK → Prop := fun xs H Q => ∃ (a : Addr) (L : List (PyData × Addr × V)), xs = [V.ref a] ∧ H a = some (DictKO w a L) ∧ KeysD K H L ∧ ∀ p, H p = none → Q (.ref p) (upd H p (.lst (L.map fun q => V.ref q.2.1)))
theorem kv3_refs : ∀ {L : List (PyData × Addr × V)} {xs : List (NestedKey × Addr × Value)}, KV3 L xs → xs.map (fun x => x.2.1) = L.map fun q => q.2.1
  | _, _, .nil => rfl
  | _, _, .cons r t => by rw [List.map_cons, List.map_cons, kv3_refs t, r.2.1]
theorem cr_listN (hc : X.calm = true) : CallR X (.type "list") (rListN X.K X.w) := by
  intro pins s σ H xs us Q I r h
  obtain ⟨a, L, rfl, ha, hk, q⟩ := h
  obtain ⟨u, rfl, rx⟩ := r.one
  cases rx
  obtain ⟨hs, z, ks, rel, o, es, ep, ho, hx, hdt, he, his, hn⟩ := dictN_open I ha hk
  have l2 := kv3_len rel
  have l1 : es.size = ks.length := by rw [← Array.length_toList, he, List.length_map]
  refine PySem.W.kdl_call (kdl_raw hs hx hdt) (I.ok.hd hc) ho (by omega) fun h' tk acc' c' kp e it => ?_
  have ea : acc'.toList = ks.map fun x => Value.ref x.2.1 := by
    have hl : acc'.toList.length = ks.length := by rw [Array.length_toList, it.1]; exact l1
    apply List.ext_getElem?
    intro j
    rw [List.getElem?_map]
    cases hj : acc'.toList[j]? with
    | none =>
      have h1 := List.getElem?_eq_none_iff.mp hj
      rw [List.getElem?_eq_none (by omega)]
      rfl
    | some v =>
      obtain ⟨en, hen, hv⟩ := it.2 j v (by rw [← Array.getElem?_toList]; exact hj)
      rw [← Array.getElem?_toList, he, List.getElem?_map] at hen
      cases hb : ks[j]? with
      | none =>
        rw [hb] at hen
        cases hen
      | some b =>
        rw [hb] at hen
        have e2 : (entryOfKey (nestedKind X.prog X.w) b) = en := Option.some.inj hen
        rw [hv, ← e2]
        rfl
  have eb : acc'.toList = (L.map fun q => q.2.1).map Value.ref := by rw [ea, ← kv3_refs rel, List.map_map]; rfl
  have rv : Vals (L.map fun q => V.ref q.2.1) acc'.toList := by
    rw [eb, show (L.map fun q => V.ref q.2.1) = (L.map fun q => q.2.1).map V.ref by rw [List.map_map]; rfl]
    exact vals_refs _
  exact ⟨.ref s.heap.objs.size, _, I.laid (t' := tk) (o := .lst (L.map fun q => V.ref q.2.1)) kp (Nat.le_refl _) ⟨by rw [List.length_map]; exact z, acc'.toList, c', rv, by rw [Array.toArray_toList]; exact e⟩, rfl, q _ (I.hok.fresh (Nat.le_refl _))⟩
end
/-! ### new tuples, known to the object: displays, sums, t[::-1]; sorted(set) that keeps the objects -/
section
variable {X : Cx}
open PySem.W in
theorem frz_new {P : Program} {w : World} {H : Hp} {g : Heap} {xs : List V} {us : List Value} (r : Vals xs us) (z : xs.length ≤ sizeLine) : ObjOk P w (upd H g.objs.size (.frz { cls := .type "tuple", data := .seq us.toArray } (.tup xs))) (g.push { cls := .type "tuple", data := .seq us.toArray }) g.objs.size (.frz { cls := .type "tuple", data := .seq us.toArray } (.tup xs)) :=
  ⟨Heap.get?_push_size _ rfl, z, us, r, IsTup.new _ _⟩
def tTupZ (t : TA) : TE := fun σ H Q => t σ H fun xs H1 => xs.length ≤ sizeLine ∧ ∀ (p : Addr) (o : Obj), o.cls = .type "tuple" → o.dict = none → H1 p = none → Q (.ref p) (upd H1 p (.frz o (.tup xs)))
theorem pe_tupZ {es : List Expr} {pos : Pos} {t : TA} {x1} (h : PA X es t) : PE X (.Tuple es x1 pos) (tTupZ t) := by
  refine ⟨fun pins s σ H Q I hq => ?_⟩
  refine wpAny_Tuple_spliced (thn (h.run pos pins s σ H _ I hq) fun us s1 ⟨xs, H1, I1, r, z, q⟩ => ⟨by rw [← r.length]; exact z, ?_⟩)
  have hf : H1 s1.heap.objs.size = none := I1.hok.fresh (Nat.le_refl _)
  exact ⟨.ref s1.heap.objs.size, _, I1.laid (t' := s1.toks) (fun b u e => Heap.get?_push_of_some _ e) (Nat.le_refl _) (frz_new r z), rfl, q _ _ rfl rfl hf⟩
def rCatZ (K : PySem.W.Frag) : R2 := fun x y H Q => ∃ (a b : Addr) (xs ys : List V), x = .ref a ∧ y = .ref b ∧ SqT K H a xs ∧ SqT K H b ys ∧ xs ≠ [] ∧ xs.length + ys.length ≤ sizeLine ∧ (ys = [] → FrzT H a xs) ∧
  ∀ (t : Addr) (J : Hp), FrzT J t (xs ++ ys) → Same H J → Q (.ref t) J
theorem op_catZ : OpR X (binaryOp .Add) (rCatZ X.K) := by
  intro pins s σ H x y v u Q I rx ry h
  obtain ⟨a, b, xs, ys, rfl, rfl, ha, hb, hx, hz, fz, q⟩ := h
  cases rx
  cases ry
  obtain ⟨its, r1, p1, _⟩ := I.tuple ha
  obtain ⟨its2, r2, p2, _⟩ := I.tuple hb
  refine HT.cat_tup p1 p2 (fun z => hx (r1.nil_iff.mp z)) (fun z => ⟨.ref a, H, I, rfl, q a H ?_ (Same.refl H)⟩) (fun z => ?_) (by rw [← r1.length, ← r2.length]; exact hz)
  · have e := r2.nil_iff.mp z
    rw [e, List.append_nil]
    exact fz e
  · have hf : H s.heap.objs.size = none := I.hok.fresh (Nat.le_refl _)
    exact ⟨.ref s.heap.objs.size, _, I.laid (t' := s.toks) (fun b ob q => Heap.get?_push_of_some _ q) (Nat.le_refl _) (frz_new (r1.append r2) (by rw [List.length_append]; exact hz)), rfl, q _ _ ⟨_, rfl, rfl, upd_same⟩ fun c o e => by rw [upd_ne (ne_of_none e hf)]; exact e⟩
theorem catZK (K : PySem.W.Frag) (h : X.K = K) : OpR X (binaryOp .Add) (rCatZ K) := h ▸ op_catZ
def tBackZ (K : PySem.W.Frag) (te : TE) : TE := fun σ H Q => te σ H fun x J => ∃ (a : Addr) (xs : List V), x = .ref a ∧ SqT K J a xs ∧ ∀ (p : Addr) (o : Obj), o.cls = .type "tuple" → o.dict = none → J p = none → Q (.ref p) (upd J p (.frz o (.tup xs.reverse)))
theorem pe_revZ {e : Expr} {te : TE} {k : Nat} {p1 p2 p3 pos : Pos} (he : PE X e te) : PE X (.Subscript e (.Slice none none (some (.UnaryOp .USub (.Constant (.int 1) k p1) p2)) p3) pos) (tBackZ X.K te) := by
  refine ⟨fun pins s σ H Q I h => Subscript_ (thn (he.run pins s σ H _ I h) fun v s1 ⟨x, H1, I1, r1, a, xs, ex, hx, q⟩ => ?_)⟩
  subst ex
  cases r1
  have step : PO X (some (.UnaryOp .USub (.Constant (.int 1) k p1) p2)) _ := po_some (pe_un un_neg pe_int)
  refine wpAny_Slice (thn (po_none.run pins s1 σ H1 (fun o L => o = none ∧ L = H1) I1 ⟨rfl, rfl⟩) fun vl s2 ⟨l, H2, I2, pl, el, e2⟩ => ?_)
  subst el e2
  refine thn (po_none.run pins s2 σ H2 (fun o L => o = none ∧ L = H2) I2 ⟨rfl, rfl⟩) fun vu s3 ⟨u, H3, I3, pu, eu, e3⟩ => ?_
  subst eu e3
  refine thn (step.run pins s3 σ H3 (fun o L => o = some (-1) ∧ L = H3) I3 ⟨1, rfl, -1, rfl, rfl, rfl⟩) fun vs s4 ⟨o, H4, I4, ps, eo, e4⟩ => ?_
  subst eo e4
  cases pl
  cases pu
  have I5 : Inv X pins σ H4 { s4 with heap := s4.heap.push { cls := .type "slice", data := .fields #[.none, .none, vs] } } := I4.kept (t' := s4.toks) fun b ob z => Heap.get?_push_of_some _ z
  obtain ⟨its, r, isT, hz⟩ := I5.tuple hx
  have hlen := r.length
  show wpAny (model X.prog X.w) X.A (subscriptTail e (.Slice none none (some (.UnaryOp .USub (.Constant (.int 1) k p1) p2)) p3) (.ref a) (.ref s4.heap.objs.size)) (EP X pins σ Q) X.xe { s4 with heap := s4.heap.push { cls := .type "slice", data := .fields #[.none, .none, vs] } }
  refine tail_any (ops := [.ref a, .ref s4.heap.objs.size]) isT.typeIs PyProof.Rows.slot_tuple_getitem.lookup ?_ (by with_unfolding_all rfl)
  refine getItem_back isT (Heap.IsSliceOf.new _ .none .none vs) ps (by rw [List.size_toArray]; omega) ?_
  exact ⟨.ref _, _, I5.laid (t' := s4.toks) (fun b ob z => Heap.get?_push_of_some _ z) (Nat.le_refl _) (frz_new (us := its.reverse) r.reverse (by rw [List.length_reverse]; exact hz)), rfl, q _ _ rfl rfl (I5.hok.fresh (Nat.le_refl _))⟩
theorem pe_revZK (K : PySem.W.Frag) (hK : X.K = K) {e : Expr} {te : TE} {k : Nat} {p1 p2 p3 pos : Pos} (he : PE X e te) : PE X (.Subscript e (.Slice none none (some (.UnaryOp .USub (.Constant (.int 1) k p1) p2)) p3) pos) (tBackZ K te) := hK ▸ pe_revZ he
end
section
variable {X : Cx}
open PySem.W PySem.Calls
/-- sorted(set): the objects stay -/
def rSortedA (K : PySem.W.Frag) (w : World) : List V → Hp → VK → Prop := fun vs H Q => ∃ (a : Addr) (L : List (PyData × Addr)), vs = [V.ref a] ∧ H a = some (SetKO w a L) ∧ (∀ p ∈ L, isKeyD p.1 = true ∧ p.1.depth ≤ 8 ∧ Dp K H (.ref p.2) p.1) ∧ AllAlike (L.map Prod.fst) ∧ Sortable (L.map Prod.fst) ∧
  ∀ (M : List (PyData × Addr)) (p : Addr), (∀ x ∈ M, x ∈ L) → (∃ N : List (PyData × Addr), N.Perm L ∧ M.map Prod.fst = (N.map Prod.fst).mergeSort (dataLe false id)) → H p = none → Q (.ref p) (upd H p (.lst (M.map fun x => V.ref x.2)))
theorem each_pairs {L : List (PyData × Addr)} : ∀ {us : List Value} {ds : List PyData}, EachIs (fun (u : Value) (d : PyData) => ∃ p ∈ L, u = Value.ref p.2 ∧ d = p.1) us ds → ∃ M : List (PyData × Addr), (∀ x ∈ M, x ∈ L) ∧ us = M.map (fun x => Value.ref x.2) ∧ M.map Prod.fst = ds
  | _, _, .nil => ⟨[], fun x hx => (nomatch hx), rfl, rfl⟩
  | _, _, .cons ⟨p, hp, e1, e2⟩ t => by
    obtain ⟨M, h1, h2, h3⟩ := each_pairs t
    refine ⟨p :: M, fun x hx => ?_, by rw [e1, h2]; rfl, by rw [e2, ← h3]; rfl⟩
    rcases List.mem_cons.mp hx with rfl | hx
    · exact hp
    · exact h1 x hx
theorem cr_sortedA (hc : X.calm = true) (hu : X.A.units + 64 < cLine) : CallR X (.builtin "sorted") (rSortedA X.K X.w) := by
  intro pins s σ H vs0 us Q I r h
  obtain ⟨a, L, rfl, ha, hk, al, so, q⟩ := h
  obtain ⟨es, ep, t, R⟩ := SetK.n (I.hok a _ ha).1 fun p hp => by
    obtain ⟨u, h1, rfl⟩ := List.mem_map.mp hp
    exact key_at I (hk u h1).1 (hk u h1).2.1 (hk u h1).2.2
  rw [Vals.ref1 r]
  obtain ⟨o, at1, exact1, dat⟩ := R.obj
  have many := R.many
  have few := R.few
  refine Calls.call_function_entry kind_sorted plain_sorted entry_sorted (args_sorted1 _) ?_
  unfold Builtin.«sorted»
  refine wpAny_bind (m := checkCount "sorted" 1 1 _) (wpAny_pure ?_)
  refine wpAny_bind (collect_set (A := X.A.in1) (I.ok.hd hc) ⟨o, at1, exact1.1, dat⟩ R.fit (by unfold scanBound; omega) R.tab.ris R.seen fun s1 vs old grew g1 o1 pm => ?_)
  have items : es.toList.map (·.2) = L.map fun p => Value.ref p.2 := by
    rw [R.rows]
    unfold rowsN
    rw [List.map_map, List.map_map]
    rfl
  rw [items] at pm
  obtain ⟨M, pmM, rfl⟩ := perm_lift pm
  have lenM : M.length < 300 := by
    have z := pmM.length_eq
    rw [List.length_map] at few
    omega
  refine wpAny_bind (wpAny_newList ?_ (by rw [List.length_map, sizeLine_eq]; omega))
  have at2 : (s1.heap.push (seqObj "list" (M.map fun p => Value.ref p.2).toArray 0)).get? s1.heap.objs.size = some (seqObj "list" (M.map fun p => Value.ref p.2).toArray 0) := Heap.get?_push_size _ rfl
  have e1 : EachIs (fun (u : Value) (d : PyData) => ∃ p ∈ L, u = Value.ref p.2 ∧ d = p.1) (M.map fun p => Value.ref p.2) (M.map Prod.fst) := by
    have z : ∀ p ∈ M, p ∈ L := fun p hp => pmM.mem_iff.mp hp
    clear pm pmM at2 lenM
    induction M with
    | nil => exact .nil
    | cons p M ih => exact .cons ⟨p, z p List.mem_cons_self, rfl, rfl⟩ (ih fun x hx => z x (List.mem_cons_of_mem _ hx))
  have e2 : EachIs (fun (v : Value) (d : PyData) => ∃ as, Reads (s1.heap.push (seqObj "list" (M.map fun p => Value.ref p.2).toArray 0)) v (id d) as ∧ s1.heap.objs.size ∉ as) (M.map fun p => Value.ref p.2) (M.map Prod.fst) := by
    have z : ∀ p ∈ M, p ∈ L := fun p hp => pmM.mem_iff.mp hp
    clear pm pmM at2 lenM e1
    generalize seqObj "list" (M.map fun p => Value.ref p.2).toArray 0 = new
    induction M with
    | nil => exact .nil
    | cons p M ih =>
      refine .cons ⟨[], PyProof.Rows.Reads.keeps (fun b u e => Heap.get?_push_of_some _ (old b u e)) (is_key I p.1 _ (.ref p.2) (hk p (z p List.mem_cons_self)).1 (hk p (z p List.mem_cons_self)).2.2 rfl).2, fun z => nomatch z⟩ (ih fun x hx => z x (List.mem_cons_of_mem _ hx))
  have pmD := pmM.map Prod.fst
  have al2 : AllAlike (M.map Prod.fst) := fun x hx y hy => al x (pmD.mem_iff.mp hx) y (pmD.mem_iff.mp hy)
  have so2 : Sortable (M.map Prod.fst) := so.imp (fun h d hd => h d (pmD.mem_iff.mp hd)) fun h d hd => h d (pmD.mem_iff.mp hd)
  refine wpAny_bind (wpAny_holding (list_sort_data (enc := id) (s := { s1 with heap := s1.heap.push (seqObj "list" (M.map fun p => Value.ref p.2).toArray 0) }) at2 e1 e2 (by rw [List.map_id]; exact al2) (by rw [List.map_id]; exact so2) (by rw [List.length_map, sizeLine_eq]; omega) (fun d hd => ?_) fun out ho eo => ?_))
  · obtain ⟨u, h1, rfl⟩ := List.mem_map.mp hd
    have z := (hk u (pmM.mem_iff.mp h1)).2.1
    show X.A.in1.units + 1 + u.1.depth < cLine
    rw [Around.in1_units]
    omega
  · obtain ⟨c, at3⟩ := sortedHeap_at (vs := M.map fun p => Value.ref p.2) (out := out.toArray) at2
    obtain ⟨N, hN, eout, eN⟩ := each_pairs eo
    have fresh : H s1.heap.objs.size = none := I.hok.fresh grew
    have old2 : ∀ b u, s.heap.get? b = some u → (sortedHeap (s1.heap.push (seqObj "list" (M.map fun p => Value.ref p.2).toArray 0)) s1.heap.objs.size (M.map fun p => Value.ref p.2) out.toArray).get? b = some u := fun b u e => by
      have z := old b u e
      have lt := Heap.lt_size z
      rw [sortedHeap_old (Nat.ne_of_lt lt) (by rw [size_push']; exact Nat.lt_succ_of_lt lt)]
      exact Heap.get?_push_of_some _ z
    refine wpAny_pure ⟨_, rfl, ?_⟩
    show EP X pins σ Q (Value.ref s1.heap.objs.size) { s1 with heap := sortedHeap (s1.heap.push (seqObj "list" (M.map fun p => Value.ref p.2).toArray 0)) s1.heap.objs.size (M.map fun p => Value.ref p.2) out.toArray }
    generalize sortedHeap (s1.heap.push (seqObj "list" (M.map fun p => Value.ref p.2).toArray 0)) s1.heap.objs.size (M.map fun p => Value.ref p.2) out.toArray = g2 at at3 old2
    have rv : Vals (N.map fun x => V.ref x.2) out := by
      rw [eout, show (N.map fun x => V.ref x.2) = (N.map fun x => x.2).map V.ref by rw [List.map_map]; rfl, show (N.map fun x => Value.ref x.2) = (N.map fun x => x.2).map Value.ref by rw [List.map_map]; rfl]
      exact vals_refs _
    have hlen : (N.map fun x => V.ref x.2).length ≤ sizeLine := by
      rw [rv.length, ho, List.length_map, sizeLine_eq]
      omega
    have J : Inv X pins σ (upd H s1.heap.objs.size (.lst (N.map fun x => V.ref x.2))) { s with heap := g2, gens := s1.gens, drawn := s1.drawn, toks := s1.toks } :=
      I.call (ch := []) (Un.laid old2 grew fresh) (I.hok.laid old2 grew ⟨hlen, out, c, rv, at3⟩) (by rw [g1]; exact I.bare) (fun _ z => nomatch z)
    have e : ({ s1 with heap := g2 } : Shared) = { s with heap := g2, gens := s1.gens, drawn := s1.drawn, toks := s1.toks } := by rw [← o1]
    rw [e]
    exact ⟨.ref _, _, J, rfl, q N _ hN ⟨M, pmM, eN⟩ fresh⟩
end
/-! ### for k in d: dicts of nested keys, locked -/
def Itkn (w : World) (d : Addr) (o : Obj) (L : List (PyData × Addr × V)) : It :=
  ⟨fun i H => H d = some (.frz o (DictKO w d L)) ∧ i < L.length, fun i H x H' => H' = H ∧ ∃ (k : PyData) (b : Addr) (v : V), L[i]? = some (k, b, v) ∧ x = .ref b, fun i H => H d = some (.frz o (DictKO w d L)) ∧ L.length ≤ i⟩
section
variable {X : Cx} {pins : List (Addr × Obj)} {σ : L2.St} {H : Hp} {s : Shared} {d : Addr} {o : Obj} {L : List (PyData × Addr × V)}
theorem kv3_get : ∀ {L : List (PyData × Addr × V)} {xs : List (NestedKey × Addr × Value)} {i : Nat} {p : PyData × Addr × V}, KV3 L xs → L[i]? = some p → ∃ q, xs[i]? = some q ∧ q.1 = keyOf p.1 ∧ q.2.1 = p.2.1 ∧ RelV p.2.2 q.2.2
  | _, _, _, _, .nil, h => by cases h
  | _, _, 0, _, .cons (b := q) r _, h => by
    cases h
    exact ⟨q, rfl, r⟩
  | _, _, i + 1, _, .cons _ t, h => kv3_get (i := i) t h
theorem frzN (I : Inv X pins σ H s) (e : H d = some (.frz o (DictKO X.w d L))) : (d == sysModules) = false ∧ s.heap.get? d = some o ∧ o.ExactDict ∧ ∃ (es : Array DictEntry) (ep : Nat), o.data = .dict es ep ∧ es.size = L.length ∧ L.length ≤ sizeLine ∧
    ∀ (i : Nat) (k : PyData) (b : Addr) (v : V), L[i]? = some (k, b, v) → ∃ en : DictEntry, es[i]? = some en ∧ en.key = .ref b ∧ RelV v en.val := by
  obtain ⟨g, q, _⟩ := (show ObjOk X.prog X.w H s.heap d (.frz o (DictKO X.w d L)) from I.hok d _ e)
  obtain ⟨q0, q1, xs, rel, o', es, ep, at1, ex, dat, rows, nd⟩ := (show DictN X.w s.heap d L from q)
  rw [g] at at1
  obtain rfl := Option.some.inj at1
  refine ⟨q0, g, ex, es, ep, dat, ?_, q1, fun i k b v h => ?_⟩
  · rw [← Array.length_toList, rows, List.length_map, kv3_len rel]
  · obtain ⟨x, hx, e1, e2, e3⟩ := kv3_get rel h
    refine ⟨⟨x.1.hash X.w, .ref x.2.1, x.2.2⟩, ?_, congrArg Value.ref e2, e3⟩
    rw [← Array.getElem?_toList, rows, List.getElem?_map, hx]
    rfl
end
section
variable {P : Program} {w : World} {K : PySem.W.Frag} {tg : Expr} {d : Addr} {o : Obj} {es : Array DictEntry} {ep : Nat}
theorem turn_keysN {L : List (PyData × Addr × V)} (it : Addr) (hod : o.data = .dict es ep) : Turn P w K tg (Itkn w d o L) [it] it (fun i h => h.IsKeyIter it d i L.length ep) where
  mem := by simp
  obj := fun i h st b hb => by
    have e : b = it := by simpa using hb
    subst e
    obtain ⟨oi, e, c, dd⟩ := st
    exact ⟨oi, e, fun v z => by rw [dd] at z; cases z⟩
  keep := fun i h h' st k => st.at fun oi e => k it (by simp) oi e
  item := by
    intro X hP hw hK hc i pins s σ H E I hf st hg
    subst hP hw hK
    obtain ⟨hd, hi⟩ := hg
    obtain ⟨f0, f1, f2, f3, f4, f5⟩ := hf it (by simp)
    obtain ⟨hs, hgd, hx, es', ep', hdt, hsz, _, ent⟩ := frzN I hd
    obtain ⟨rfl, rfl⟩ := dict_ep hod hdt
    obtain ⟨⟨k, b, v⟩, hkv⟩ : ∃ p, L[i]? = some p := ⟨L[i], List.getElem?_eq_getElem hi⟩
    obtain ⟨en, hen, hkey, _⟩ := ent i k b v hkv
    refine next_key_item st hgd hdt hsz hen fun h' st' sb => ?_
    have I1 : Inv X pins σ H { s with heap := h' } := I.turned (t' := s.toks) (fun b ob hb e => (sb.2 b hb).trans e) f0 f1 f3 f4 f5
    obtain ⟨oi, e, c, dd⟩ := id st'
    refine ⟨en.key, rfl, go_of (s := { s with heap := h' }) e c dd (by decide) ⟨.ref b, H, I1, hkey, ⟨rfl, k, b, v, hkv, rfl⟩, st', fun b hb => (hf b hb).1⟩⟩
  done := by
    intro X hP hw hK hc i pins s σ H E I hf st hg
    subst hP hw hK
    obtain ⟨hd, hi⟩ := hg
    obtain ⟨f0, f1, f2, f3, f4, f5⟩ := hf it (by simp)
    obtain ⟨hs, hgd, hx, es', ep', hdt, hsz, _, ent⟩ := frzN I hd
    obtain ⟨rfl, rfl⟩ := dict_ep hod hdt
    exact next_key_end (I.ok.hd hc) st hgd hdt hsz hi fun h' eb => ⟨rfl, I.turned (t' := s.toks) (fun b ob hb e => eb b ob hb e) f0 f1 f3 f4 f5⟩
  self := fun A i s Q E st h => wpAny_pyIter_keyiter st h
end
/-- the dict is locked -/
def iKeysN (w : World) (td : TE) : TI := fun σ H R => td σ H fun x H1 => ∃ (d : Addr) (o : Obj) (L : List (PyData × Addr × V)), x = .ref d ∧ H1 d = some (.frz o (DictKO w d L)) ∧ R (Itkn w d o L) H1
section
variable {X : Cx} {tg e : Expr} {td : TE}
theorem pi_keysN (he : PE X e td) : PI X tg e (iKeysN X.w td) := by
  refine ⟨fun pins s σ H R I h => ?_⟩
  refine thn (he.run pins s σ H _ I h) fun u s1 ⟨x, H1, I1, rx, d, o, L, ex, hd, q⟩ => ?_
  subst ex
  obtain rfl : u = Value.ref d := rx
  obtain ⟨hs, hgd, hx, es, ep, hdt, hsz, _, ent⟩ := frzN I1 hd
  refine iter_keys hs hgd hx hdt (pi_one (tk := s1.toks) I1 _ (turn_keysN _ hdt) ⟨_, Heap.get?_push_size _ rfl, rfl, ?_⟩ q)
  rw [hsz]
  rfl
theorem walk_keysN {w : World} {d : Addr} {o : Obj} {L : List (PyData × Addr × V)} : Walk (Itkn w d o L) L.length (fun H => H d = some (.frz o (DictKO w d L))) (YAt (L.map fun q => V.ref q.2.1)) :=
  ⟨fun i _ hi q => ⟨q, hi⟩, fun _ q => ⟨q, Nat.le_refl _⟩, fun i H x H' _ q y => ⟨y.1, by
    obtain ⟨k, b, v, h, rfl⟩ := y.2
    rw [List.getElem?_map, h]
    rfl⟩⟩
end
/-! ### for k, v in d.items(): dicts of nested keys, locked -/
def Itin (w : World) (d : Addr) (o : Obj) (L : List (PyData × Addr × V)) : It :=
  ⟨fun i H => H d = some (.frz o (DictKO w d L)) ∧ i < L.length, fun i H x H' => ∃ (T : Addr) (k : PyData) (b : Addr) (v : V), L[i]? = some (k, b, v) ∧ x = .ref T ∧ H T = none ∧ H' = upd H T (.tup [.ref b, v]), fun i H => H d = some (.frz o (DictKO w d L)) ∧ L.length ≤ i⟩
section
variable {P : Program} {w : World} {K : PySem.W.Frag} {d : Addr} {o : Obj} {es : Array DictEntry} {ep : Nat}
theorem turn_itemsN {L : List (PyData × Addr × V)} {elts : List Expr} {kk : Nat} {tpos : Pos} (it : Addr) (hod : o.data = .dict es ep) :
    Turn P w K (.Tuple elts kk tpos) (Itin w d o L) [it] it (fun i h => ∃ ok ov, IsItemIter h it d i L.length ep ok ov) where
  mem := by simp
  obj := fun i h st b hb => by
    have e : b = it := by simpa using hb
    subst e
    obtain ⟨ok, ov, e⟩ := st
    exact ⟨_, e, fun v z => nomatch z⟩
  keep := fun i h h' st k => let ⟨ok, ov, e⟩ := st; ⟨ok, ov, k it (by simp) _ e⟩
  item := by
    intro X hP hw hK hc i pins s σ H E I hf st hg
    subst hP hw hK
    obtain ⟨hd, hi⟩ := hg
    obtain ⟨hs, hgd, hx, es', ep', hdt, hsz, _, ent⟩ := frzN I hd
    obtain ⟨rfl, rfl⟩ := dict_ep hod hdt
    obtain ⟨⟨k, b, v⟩, hkv⟩ : ∃ p, L[i]? = some p := ⟨L[i], List.getElem?_eq_getElem hi⟩
    obtain ⟨en, hen, hkey, ru⟩ := ent i k b v hkv
    have hi2 : i < es'.size := by rw [hsz]; exact hi
    have een : es'[i] = en := by
      rw [Array.getElem?_eq_getElem hi2] at hen
      exact Option.some.inj hen
    obtain ⟨ok, ov, he⟩ := st
    rw [← hsz] at he
    have hlt : it < s.heap.objs.size := Heap.lt_size he
    refine wpAny_pyNext_items_item_raw he ⟨o, hgd, hx, hdt⟩ hi2 fun h' ho hT hz hk => ?_
    refine ⟨_, rfl, wpAny_letOwnedTupleGo_items (s := { s with heap := h' }) ho fun h'' he' sb => ?_⟩
    have hT2 : h''.get? s.heap.objs.size = some { cls := .type "tuple", data := .seq #[es'[i].key, es'[i].val] } := (sb.2 _ (Nat.ne_of_gt hlt)).trans hT
    have new : ObjOk X.prog X.w (upd H s.heap.objs.size (.tup [.ref b, v])) h'' s.heap.objs.size (.tup [.ref b, v]) := by
      refine ⟨by show 2 ≤ sizeLine; decide, [es'[i].key, es'[i].val], .cons ?_ (.cons ?_ .nil), ⟨_, hT2, rfl, _, rfl⟩⟩
      · rw [een]; exact hkey
      · rw [een]; exact ru
    have I1 : Inv X pins σ (upd H s.heap.objs.size (.tup [.ref b, v])) { s with heap := h'' } :=
      I.turnedNew (t' := s.toks) (ch := [it]) (fun b ob hb e => (sb.2 b (by simpa using hb)).trans (hk b ob (by simpa using hb) e)) hf (Nat.le_refl _) new
    refine ⟨.ref s.heap.objs.size, _, I1, rfl, ⟨_, k, b, v, hkv, rfl, I.hok.fresh (Nat.le_refl _), rfl⟩, ⟨es'[i].key, es'[i].val, ?_⟩, fun b hb => ?_⟩
    · rw [← hsz]; exact he'
    · have e : b = it := by simpa using hb
      rw [e, upd_ne (Nat.ne_of_lt hlt)]
      exact (hf it (by simp)).1
  done := by
    intro X hP hw hK hc i pins s σ H E I hf st hg
    subst hP hw hK
    obtain ⟨hd, hi⟩ := hg
    obtain ⟨f0, f1, f2, f3, f4, f5⟩ := hf it (by simp)
    obtain ⟨hs, hgd, hx, es', ep', hdt, hsz, _, ent⟩ := frzN I hd
    obtain ⟨rfl, rfl⟩ := dict_ep hod hdt
    obtain ⟨ok, ov, he⟩ := st
    rw [← hsz] at he
    exact wpAny_pyNext_items_end_raw (I.ok.hd hc) he ⟨o, hgd, hx, hdt⟩ (by omega) fun h' eb => ⟨rfl, I.turned (t' := s.toks) (fun b ob hb e => eb b ob hb e) f0 f1 f3 f4 f5⟩
  self := fun A i s Q E st h => let ⟨_, _, e⟩ := st; PySem.W.kcp_self e h
end
def iItemsN (w : World) (td : TE) : TI := fun σ H R => td σ H fun x H1 => ∃ (d : Addr) (o : Obj) (L : List (PyData × Addr × V)), x = .ref d ∧ H1 d = some (.frz o (DictKO w d L)) ∧ R (Itin w d o L) H1
section
variable {X : Cx} {e : Expr} {td : TE} {apos cpos : Pos}
theorem pi_itemsN {elts : List Expr} {kk : Nat} {tpos : Pos} (he : PE X e td) (hbase : attributeBase e "items" X.env (eval e X.env) = eval e X.env := by rfl) (hline : (apos.endLine == cpos.line) = true := by rfl) :
    PI X (.Tuple elts kk tpos) (.Call (.Attribute e "items" apos) [] [] cpos) (iItemsN X.w td) := by
  refine ⟨fun pins s σ H R I h => ?_⟩
  refine wpAny_Call_method (T := "dict") (id := "dict.items") hbase rfl hline PySem.F.plainAttrs_dict PySem.F.slot_dict_items PySem.F.type_dict_items (thn (he.run pins s σ H _ I h) fun u s1 ⟨x, H1, I1, rx, d, o, L, ex, hd, q⟩ => ?_)
  subst ex
  obtain rfl : u = Value.ref d := rx
  obtain ⟨hs, hgd, hx, es, ep, hdt, hsz, _, ent⟩ := frzN I1 hd
  refine ⟨⟨o, hgd, hx.1⟩, fun b q => ?_, ?_⟩
  · cases q
    exact ⟨o, hgd, hx.2.1⟩
  have I2 : Inv X pins σ H1 { s1 with heap := s1.heap.push { cls := .type "dict_items", data := .fields #[.ref d] } } := I1.kept (t' := s1.toks) fun b ob q => Heap.get?_push_of_some _ q
  have hraw : (s1.heap.push { cls := .type "dict_items", data := .fields #[.ref d] }).DictRaw d es ep := ⟨o, Heap.get?_push_of_some _ hgd, hx, hdt⟩
  have fin : wpAny (model X.prog X.w) X.A (pyIter (.ref s1.heap.objs.size)) (PIE X pins σ (.Tuple elts kk tpos) R) X.xe { s1 with heap := s1.heap.push { cls := .type "dict_items", data := .fields #[.ref d] } } := by
    refine wpAny_pyIter_items_raw (d := d) ⟨_, Heap.get?_push_size _ rfl, rfl, rfl⟩ hraw (pi_one (tk := s1.toks) I2 _ (turn_itemsN _ hdt) ⟨.none, .none, ?_⟩ q)
    rw [← hsz]
    exact Heap.get?_push_size _ rfl
  show wpAny _ _ (callWith cpos (.builtin "dict.items") [.ref d] [] []) _ X.xe s1
  exact method_meetsIn PySem.F.slot_dict_items PySem.F.entry_dict_items rfl (PySem.evalArgs_none ⟨rfl, ⟨o, hgd, hx.1⟩, PySem.F.args_dict_items_1 _, _, meets_dict_items_raw d hs, ⟨es, ep, ⟨o, hgd, hx, hdt⟩⟩, fin⟩)
end
/-! ### {k: v for ..}: a dict of nested keys made by a comprehension -/
/-- the dict is D, it begins empty -/
def tDn (K : PySem.W.Frag) (w : World) (wi : TI) (g : TG) (tt : TT) (tk tv : TE) (vs : List Nat) : TE := fun σ H Q => wi σ H fun J H1 => ∀ D, H1 D = none → ∃ W : Nat → Nat → Hp → Prop, (∃ m, W 0 m (upd H1 D (DictKO w D []))) ∧ ∀ i m G, W i m G →
  (J.stop i G ∧ Q (.ref D) G) ∨ (J.go i G ∧ ∃ Nx : Hp → Prop, (∀ G', Nx G' → ∃ m', m' < m ∧ W (i + 1) m' G') ∧ ∀ x G', J.yld i G x G' → g x (wipe σ vs) G' fun σ2 H2 => wipe σ2 vs = wipe σ vs ∧ tt σ2 H2 fun b H3 =>
    if b = true then tk σ2 H3 fun y H4 => tv σ2 H4 fun z H5 => ∃ (L : List (PyData × Addr × V)) (b : Addr) (d : PyData), y = .ref b ∧ H5 D = some (DictKO w D L) ∧ KeysD K H5 L ∧ IsKeyAt K H5 b d ∧ L.length < sizeLine ∧ ∀ M, PutD L d b z M → Nx (upd H5 D (DictKO w D M)) else Nx H3)
section
variable {X : Cx} {pins : List (Addr × Obj)} {σ : L2.St} {H : Hp} {s : Shared}
theorem n_dictSet {D b : Addr} {L : List (PyData × Addr × V)} {d : PyData} {v : V} {u : Value} {E : Value → Shared → Prop} {Q : Unit → Shared → Prop} (hu : X.A.units + 64 < cLine) (I : Inv X pins σ H s) (e : H D = some (DictKO X.w D L)) (hk : KeysD X.K H L) (kd : IsKeyAt X.K H b d) (few : L.length < sizeLine) (rv : RelV v u)
    (h : ∀ M s', PutD L d b v M → Inv X pins σ (upd H D (DictKO X.w D M)) s' → Q () s') : wpAny (model X.prog X.w) X.A (dictSet D (.ref b) u) Q E s := by
  obtain ⟨q0, q1, xs, rel, dd⟩ := dictN_open I e hk
  refine wpAny_dictSet_heap (hsz := by rw [← kv3_len rel]; exact q1) (show X.A.units + 8 < cLine by omega) (kd.is I) dd fun h' new but => ?_
  obtain ⟨o, es, ep, at1, ex, dat, rows, _, nd⟩ := new
  have there : (atKey xs (keyOf d)).isSome = true ↔ d ∈ L.map Prod.fst := by rw [atKey_iff, kv3_keys rel, key_there hk kd.1]
  have wr : ∀ {M : List (PyData × Addr × V)}, M.length ≤ sizeLine → KV3 M (storedH xs (keyOf d) b u) → PutD L d b v M → Q () { s with heap := h', toks := s.toks + (nestedKind X.prog X.w).draws (keyOf d) } := fun ml r p =>
    h _ _ p (d_write I (by rw [e]; exact True.intro) but ⟨o, at1⟩ (dictKO_new ⟨q0, ml, _, r, o, es, ep, at1, ex, dat, rows, nd⟩))
  cases z : atKey xs (keyOf d) with
  | none =>
    rw [storedH_new z] at wr
    refine wr (M := L ++ [(d, b, v)]) (by rw [List.length_append, List.length_singleton]; omega) (kv3_snoc rel ⟨rfl, rfl, rv⟩) (.inl ⟨fun m => ?_, rfl⟩)
    have := there.mpr m
    rw [z] at this
    cases this
  | some p =>
    rw [storedH_old z] at wr
    exact wr (by rw [List.length_map]; exact q1) (kv3_put rv rel) (.inr ⟨there.mp (by rw [z]; rfl), rfl⟩)
theorem dcn_core {Q : VK} {kx vx tg iter : Expr} {ifs : List Expr} {scope : Scope} {own : List (Str × Nat)} {pos pos' : Pos} {wi : TI} {g : TG} {tt : TT} {tk tv : TE} {use : Option (Value → Sem Unit)} {Qf : Value → Shared → Prop}
    (hu : X.A.units + 64 < cLine) (hc : X.calm = true) (hN : X.N.Nodup) (I : Inv X pins σ H s) (hi : PI X tg iter wi) (ok : BlkOk X.N X.env.scope scope own)
    (pg : ∀ (s : Shared) (H : Hp) (C : Addr) (cl : List (Str × Addr)) (fp : List Addr), PG (X.blk s H scope (compEnvC scope cl C X.env) fp) tg g)
    (pt : ∀ (s : Shared) (H : Hp) (C : Addr) (cl : List (Str × Addr)) (fp : List Addr), PTs (X.blk s H scope (compEnvC scope cl C X.env) fp) ifs tt)
    (pk : ∀ (s : Shared) (H : Hp) (C : Addr) (cl : List (Str × Addr)) (fp : List Addr), PE (X.blk s H scope (compEnvC scope cl C X.env) fp) kx tk)
    (pv : ∀ (s : Shared) (H : Hp) (C : Addr) (cl : List (Str × Addr)) (fp : List Addr), PE (X.blk s H scope (compEnvC scope cl C X.env) fp) vx tv) (nf : ∀ x, foldedSetIterable iter X.env x = pure x)
    (h : tDn X.K X.w wi g tt tk tv (own.map (·.2)) σ H Q)
    (out : ∀ D C s' m G, Inv X pins σ G s' → Q (.ref D) G → s'.heap.Ns C m → FpOk X pins G C → compPost (model X.prog X.w) X.A X.xe use Qf (.ref D) C (.ok .next) s') :
    wpAny (model X.prog X.w) X.A (comprehension (.DictComp kx vx [⟨tg, iter, ifs, 0⟩] scope pos) scope X.env pos' newDict false (eval iter X.env) use) Qf X.xe s := by
  have cells : ∀ y ∈ scope.names, y.2 = .free → ∃ c, X.env.cells.lookup y.1 = some c := fun y hy e => (ok.free y hy e).elim (fun k => I.ok.has _ (.inl k)) fun k => I.ok.has _ (.inr k)
  refine wpAny_comprehension_free (use := use) rfl nf (closure_ok cells) ok.kind (fun y hy e => by rw [ok.uniq y hy, e]) (thn (hi.run pins s σ H _ I h) fun xv s1 hx => thn hx fun itv s2 h2 => ?_)
  obtain ⟨it, fp, tn, J, G, rfl, I2, T, st, foot, q⟩ := h2
  refine wpAny_newObj_type (newEnv_comp ?_)
  generalize hD : s2.heap.objs.size = D
  have free0 : G D = none := I2.hok.fresh (Nat.le_of_eq hD)
  obtain ⟨W, ⟨m0, w0⟩, turn⟩ := q D free0
  generalize hs3 : ({ s2 with heap := s2.heap.push { cls := .type "dict", data := .dict #[] } } : Shared) = s3
  have e3 : s3.heap = s2.heap.push { cls := .type "dict", data := .dict #[] } := by rw [← hs3]
  have I3 : Inv X pins σ (upd G D (DictKO X.w D [])) s3 := by
    subst hs3
    subst hD
    exact I2.laid (t' := s2.toks) (fun b o e => Heap.get?_push_of_some _ e) (Nat.le_refl _) (dictKO_new (dictN_empty s2.heap I2.big))
  have below : ∀ b ∈ fp, b < s2.heap.objs.size := fun b hb => let ⟨_, e, _⟩ := T.obj _ _ st b hb; Heap.lt_size e
  have foot3 : ∀ b ∈ fp, FpOk X pins (upd G D (DictKO X.w D [])) b ∧ b < s3.heap.objs.size := fun b hb => by
    have lt := below b hb
    refine ⟨⟨?_, (foot b hb).2⟩, by rw [e3, Heap.size_push]; exact Nat.lt_succ_of_lt lt⟩
    rw [upd_ne (by rw [← hD]; exact Nat.ne_of_lt lt)]
    exact (foot b hb).1
  have st3 : tn 0 s3.heap := T.keep _ _ _ st fun b _ o e => by rw [e3]; exact Heap.get?_push_of_some _ e
  have I4 := block_start I3 ok hN foot3
  let cl := cellsFrom (s3.heap.objs.size + 1) scope.names (cloFrom X.env.cells scope.names [])
  show codeAny _ _ (.compStart (.DictComp kx vx [⟨tg, iter, ifs, 0⟩] scope pos) 0 (.ref it) (.ref D) (compEnvC scope cl s3.heap.objs.size X.env)) (compPost (model X.prog X.w) X.A X.xe use Qf (.ref D) s3.heap.objs.size) { s3 with heap := pushCells (s3.heap.push { cls := .type "dict", data := .dict #[] }) scope.names }
  have pg := pg s3 (upd G D (DictKO X.w D [])) s3.heap.objs.size cl fp
  have pt := pt s3 (upd G D (DictKO X.w D [])) s3.heap.objs.size cl fp
  have pk := pk s3 (upd G D (DictKO X.w D [])) s3.heap.objs.size cl fp
  have pv := pv s3 (upd G D (DictKO X.w D [])) s3.heap.objs.size cl fp
  have I4 : Inv (X.blk s3 (upd G D (DictKO X.w D [])) scope (compEnvC scope cl s3.heap.objs.size X.env) fp) [] (wipe σ (own.map (·.2))) (upd G D (DictKO X.w D [])) { s3 with heap := pushCells (s3.heap.push { cls := .type "dict", data := .dict #[] }) scope.names } := I4
  have nofp : ∀ b ∈ fp, (upd G D (DictKO X.w D [])) b = none := fun b hb => (foot3 b hb).1.1
  have cloc : (compEnvC scope cl s3.heap.objs.size X.env).locals = s3.heap.objs.size := rfl
  generalize compEnvC scope cl s3.heap.objs.size X.env = ce at I4 pg pt pk pv cloc ⊢
  generalize upd G D (DictKO X.w D []) = G3 at I3 I4 pg pt pk pv w0 nofp foot3
  generalize hs4 : ({ s3 with heap := pushCells (s3.heap.push { cls := .type "dict", data := .dict #[] }) scope.names } : Shared) = s4 at I4 ⊢
  have st4 : tn 0 s4.heap := T.keep _ _ _ st3 fun b _ o e => by rw [← hs4]; exact pushCells_keeps _ _ _ _ (Heap.get?_push_of_some _ e)
  have inBlk : ∀ {σ' : L2.St} {F : Hp} {z : Shared}, Inv (X.blk s3 G3 scope ce fp) [] σ' F z → (∀ b ∈ fp, F b = none) → ∀ b ∈ fp, FpOk (X.blk s3 G3 scope ce fp) [] F b := fun {σ' F z} I' none b hb =>
    ⟨none b hb, (I'.ok.exf b hb).1, I'.ok.exfs b hb, .inl hb, fun x c e => (I'.ok.exf b hb).2 x c e, fun p hp => absurd (show p ∈ ([] : List (Addr × Obj)) ++ [] from hp) (by simp)⟩
  have walk : codeAny (model X.prog X.w) X.A (.compLoop (.DictComp kx vx [⟨tg, iter, ifs, 0⟩] scope pos) 0 (.ref it) (.ref D) ce) (compPost (model X.prog X.w) X.A X.xe use Qf (.ref D) s3.heap.objs.size) s4 := by
    refine compLoop_anyD (fun n z => ∃ i F, Inv (X.blk s3 G3 scope ce fp) [] (wipe σ (own.map (·.2))) F z ∧ tn i z.heap ∧ (∀ b ∈ fp, F b = none) ∧ W i n F) ?_ m0 ⟨0, G3, I4, st4, nofp, w0⟩
    rintro n z5 ⟨i, F, I5, st5, n5, w5⟩
    rcases turn i n F w5 with ⟨stop, fin⟩ | ⟨go, Nx, less, one⟩
    · refine thnF (T.done (X.blk s3 G3 scope ce fp) rfl rfl rfl hc i [] z5 _ F (fun _ _ => False) I5 (inBlk I5 n5) st5 stop) fun r z6 ⟨hr, I6⟩ => ?_
      subst hr
      have I7 : Inv X pins σ F z6 := I3.call' (ch := fp) I6.os I6.base I6.hok I6.bare fun b hb => ⟨(foot3 b hb).1.2.2.2.1, (foot3 b hb).1.2.1, (foot3 b hb).1.2.2.2.2.1, (foot3 b hb).1.2.2.2.2.2⟩
      obtain ⟨m, names, _⟩ := I6.loc
      have gone : F s3.heap.objs.size = none := by
        rw [← cloc]
        exact I6.free
      have names' : z6.heap.Ns s3.heap.objs.size m := by
        rw [← cloc]
        exact names
      exact out D s3.heap.objs.size z6 m F I7 fin names' (I3.fpOk (Nat.le_refl _) gone)
    · refine thnF (T.item (X.blk s3 G3 scope ce fp) rfl rfl rfl hc i [] z5 _ F (fun _ _ => False) I5 (inBlk I5 n5) st5 go) fun r z6 ⟨u, hr, h6⟩ => ?_
      subst hr
      refine thnF h6 fun _ z7 ⟨x, F7, I7, r7, y7, st7, n7⟩ => ?_
      have pinned := I7.pinned (inBlk I7 n7) (T.obj _ _ st7)
      refine thnF (pg.run _ z7 _ F7 x u _ pinned r7 (one x F7 y7)) fun _ z8 ⟨σ8, F8, I8, same8, q8⟩ => ?_
      refine thnF (pt.run _ z8 σ8 F8 _ I8 q8) fun yes z9 ⟨F9, I9, q9⟩ => ?_
      have again : ∀ {z : Shared} {F' : Hp}, Inv (X.blk s3 G3 scope ce fp) ([] ++ pinsAt fp z7.heap) σ8 F' z → Nx F' → ∃ m, m < n ∧ ∃ i F, Inv (X.blk s3 G3 scope ce fp) [] (wipe σ (own.map (·.2))) F z ∧ tn i z.heap ∧ (∀ b ∈ fp, F b = none) ∧ W i m F := fun {z F'} I' nx => by
        obtain ⟨m', lt, w'⟩ := less F' nx
        have held : ∀ b ∈ fp, ∀ o, z7.heap.get? b = some o → z.heap.get? b = some o ∧ F' b = none := fun b hb o e => let p := I'.pin (b, o) (List.mem_append_right _ (List.mem_append_right _ (mem_pinsAt hb e))); ⟨p.1, p.2.1⟩
        refine ⟨m', lt, i + 1, F', (I'.unpinned (pins := [])).weak (by rw [← same8, wipe_length]) (fun j v e => ?_), T.keep _ _ _ st7 fun b hb o e => (held b hb o e).1, fun b hb => ?_, w'⟩
        · rw [← same8] at e
          exact (wipe_some e).1
        · obtain ⟨o, e, _⟩ := T.obj _ _ st7 b hb
          exact (held b hb o e).2
      cases yes with
      | false =>
        simp only [Bool.false_eq_true, if_false] at q9 ⊢
        exact again I9 q9
      | true =>
        simp only [if_true] at q9 ⊢
        refine thnF (pk.run _ z9 σ8 F9 _ I9 q9) fun kv z10 ⟨y, F10, I10, r10, q10⟩ => thnF (pv.run _ z10 σ8 F10 _ I10 q10) fun vv z11 ⟨v, F11, I11, r11, L, b, d, ey, hL, hk, kd, few, nx⟩ => ?_
        subst ey
        obtain rfl : kv = Value.ref b := r10
        exact n_dictSet (X := X.blk s3 G3 scope ce fp) hu I11 hL hk kd few r11 fun M z12 hM I12 => again I12 (nx M hM)
  exact codeAny_compStart_dict walk (T.self X.A 0 _ _ _ st4 walk)
/-- as a value -/
theorem pe_dcn {kx vx tg iter : Expr} {ifs : List Expr} {scope : Scope} {own : List (Str × Nat)} {pos : Pos} {wi : TI} {g : TG} {tt : TT} {tk tv : TE} (hu : X.A.units + 64 < cLine) (hc : X.calm = true) (hN : X.N.Nodup) (hi : PI X tg iter wi) (ok : BlkOk X.N X.env.scope scope own)
    (pg : ∀ (s : Shared) (H : Hp) (C : Addr) (cl : List (Str × Addr)) (fp : List Addr), PG (X.blk s H scope (compEnvC scope cl C X.env) fp) tg g)
    (pt : ∀ (s : Shared) (H : Hp) (C : Addr) (cl : List (Str × Addr)) (fp : List Addr), PTs (X.blk s H scope (compEnvC scope cl C X.env) fp) ifs tt)
    (pk : ∀ (s : Shared) (H : Hp) (C : Addr) (cl : List (Str × Addr)) (fp : List Addr), PE (X.blk s H scope (compEnvC scope cl C X.env) fp) kx tk)
    (pv : ∀ (s : Shared) (H : Hp) (C : Addr) (cl : List (Str × Addr)) (fp : List Addr), PE (X.blk s H scope (compEnvC scope cl C X.env) fp) vx tv) (nf : ∀ x, foldedSetIterable iter X.env x = pure x := by intro _; rfl) :
    PE X (.DictComp kx vx [⟨tg, iter, ifs, 0⟩] scope pos) (tDn X.K X.w wi g tt tk tv (own.map (·.2))) := by
  refine ⟨fun pins s σ H Q I h => ?_⟩
  rw [arm_eval_DictComp]
  refine dcn_core hu hc hN I hi ok pg pt pk pv nf h fun D C s' m G I' q names f => ⟨m, names, fun h'' sb => ?_⟩
  obtain ⟨f0, f1, f2, f3, f4, f5⟩ := f
  exact ⟨.ref D, G, I'.turned (t' := s'.toks) (fun b o hb e => (sb.2 b hb).trans e) f0 f1 f3 f4 f5, rfl, q⟩
/-- name = {..} on one line, the name a local -/
theorem ps_setDcn {i : Nat} {y : Str} {py : Pos} {kx vx tg iter : Expr} {ifs : List Expr} {scope : Scope} {own : List (Str × Nat)} {pos spos : Pos} {wi : TI} {g : TG} {tt : TT} {tk tv : TE} (hu : X.A.units + 64 < cLine) (hc : X.calm = true) (hN : X.N.Nodup) (hy : X.N[i]? = some y) (hyl : X.env.scope.names.lookup y = some .local)
    (hsw : swapsWith (.DictComp kx vx [⟨tg, iter, ifs, 0⟩] scope pos) (some (.Name y py)) spos.line X.env = pure true) (hi : PI X tg iter wi) (ok : BlkOk X.N X.env.scope scope own)
    (pg : ∀ (s : Shared) (H : Hp) (C : Addr) (cl : List (Str × Addr)) (fp : List Addr), PG (X.blk s H scope (compEnvC scope cl C X.env) fp) tg g)
    (pt : ∀ (s : Shared) (H : Hp) (C : Addr) (cl : List (Str × Addr)) (fp : List Addr), PTs (X.blk s H scope (compEnvC scope cl C X.env) fp) ifs tt)
    (pk : ∀ (s : Shared) (H : Hp) (C : Addr) (cl : List (Str × Addr)) (fp : List Addr), PE (X.blk s H scope (compEnvC scope cl C X.env) fp) kx tk)
    (pv : ∀ (s : Shared) (H : Hp) (C : Addr) (cl : List (Str × Addr)) (fp : List Addr), PE (X.blk s H scope (compEnvC scope cl C X.env) fp) vx tv) (nf : ∀ x, foldedSetIterable iter X.env x = pure x := by intro _; rfl) :
    PS X (.Assign [.Name y py] (.DictComp kx vx [⟨tg, iter, ifs, 0⟩] scope pos) spos) (tAsg (tDn X.K X.w wi g tt tk tv (own.map (·.2))) (gName i)) := by
  refine ⟨fun pins s σ H D I h => ?_⟩
  rw [exec_Assign_Name_used _ _ _ _ hsw]
  refine wpAny_bind (wpAny_standAt (wpAny_bind ?_))
  show wpAny _ X.A (do let _ ← comprehension (.DictComp kx vx [⟨tg, iter, ifs, 0⟩] scope pos) scope X.env (firstIterPos [⟨tg, iter, ifs, 0⟩] pos) newDict false (eval iter X.env) (some (assign (.Name y py) X.env))) _ _ s
  have h : tDn X.K X.w wi g tt tk tv (own.map (·.2)) σ H (fun x H1 => gName i x σ H1 D.nx) := h
  refine wpAny_bind (thn (dcn_core (Qf := fun _ s' => SP X pins D .next s') hu hc hN I hi ok pg pt pk pv nf h fun L C s' m G I' q names f => ?_) fun _ s' hq => wpAny_pure (wpAny_pure hq))
  show wpAny _ _ (assign (.Name y py) X.env (.ref L)) _ _ _
  refine wpAny_assign_Name (store_ok2 (v := V.ref L) I' hN hy (.inl hyl) rfl (fun s2 I2 ⟨a, sb, ha⟩ => ?_) (.inr hyl))
  obtain ⟨f0, f1, f2, f3, f4, f5⟩ := f
  have apart : C ≠ a := ha.elim (fun z => by rw [z]; exact f1) fun z e => f4 y a z e.symm
  exact ⟨m, names.sameBut sb apart, fun h3 sb3 => ⟨_, G, I2.turned (t' := s2.toks) (fun b o hb e => (sb3.2 b hb).trans e) f0 f1 f3 f4 f5, q⟩⟩
theorem sw_dict {kx vx : Expr} {gs : List Comprehension} {scope : Scope} {pos py : Pos} {y : Str} {l : Nat} {env : Env} (hk : env.scope.kind = .function) (hy : env.scope.names.lookup y = some .local) (hl : (py.line == pos.line) = true)
    (ha : (scope.names.any fun (n, k) => n == y && (k == .local || k == .cell)) = false) : swapsWith (.DictComp kx vx gs scope pos) (some (.Name y py)) l env = pure true := by
  have k1 : env.kindOf y = some .local := hy
  have k2 : env.blockKind = .function := by unfold Env.blockKind; rw [hk]; rfl
  unfold swapsWith
  simp only [k1, k2, ha, Expr.pos, hl]
  rfl
end
/-- such a comprehension over any walk -/
theorem dcn_it {K : PySem.W.Frag} {w : World} {J : It} {n : Nat} {Gd : Hp → Prop} {Y : Nat → Hp → V → Hp → Prop} (wk : Walk J n Gd Y) {g : TG} {tt : TT} {tk tv : TE} {vs : List Nat} {σ : L2.St} {H1 : Hp} {D : Addr} {Qd : Hp → Prop} (Pv : Nat → Hp → Prop) (h0 : Pv 0 (upd H1 D (DictKO w D []))) (hG : ∀ i H, i ≤ n → Pv i H → Gd H)
    (hs : ∀ i x H H', i < n → Pv i H → Y i H x H' → g x (wipe σ vs) H' fun σ2 H2 => wipe σ2 vs = wipe σ vs ∧ tt σ2 H2 fun b H3 =>
      if b = true then tk σ2 H3 fun y H4 => tv σ2 H4 fun z H5 => ∃ (L : List (PyData × Addr × V)) (b : Addr) (d : PyData), y = .ref b ∧ H5 D = some (DictKO w D L) ∧ KeysD K H5 L ∧ IsKeyAt K H5 b d ∧ L.length < sizeLine ∧ ∀ M, PutD L d b z M → Pv (i + 1) (upd H5 D (DictKO w D M)) else Pv (i + 1) H3) (hd : ∀ H, Pv n H → Qd H) :
    ∃ W : Nat → Nat → Hp → Prop, (∃ m, W 0 m (upd H1 D (DictKO w D []))) ∧ ∀ i m G, W i m G →
      (J.stop i G ∧ Qd G) ∨ (J.go i G ∧ ∃ Nx : Hp → Prop, (∀ G', Nx G' → ∃ m', m' < m ∧ W (i + 1) m' G') ∧ ∀ x G', J.yld i G x G' → g x (wipe σ vs) G' fun σ2 H2 => wipe σ2 vs = wipe σ vs ∧ tt σ2 H2 fun b H3 =>
        if b = true then tk σ2 H3 fun y H4 => tv σ2 H4 fun z H5 => ∃ (L : List (PyData × Addr × V)) (b : Addr) (d : PyData), y = .ref b ∧ H5 D = some (DictKO w D L) ∧ KeysD K H5 L ∧ IsKeyAt K H5 b d ∧ L.length < sizeLine ∧ ∀ M, PutD L d b z M → Nx (upd H5 D (DictKO w D M)) else Nx H3) := by
  refine ⟨fun i m G => m = n - i ∧ i ≤ n ∧ Pv i G, ⟨n, rfl, Nat.zero_le _, h0⟩, fun i m G ⟨em, le, p⟩ => ?_⟩
  have gd := hG i G le p
  rcases Nat.lt_or_eq_of_le le with lt | rfl
  · exact .inr ⟨wk.goes i G lt gd, Pv (i + 1), fun G' p' => ⟨n - (i + 1), by omega, rfl, lt, p'⟩, fun x G' y => hs i x G G' lt p (wk.yields i G x G' lt gd y)⟩
  · exact .inl ⟨wk.stops G gd, hd G p⟩
section
variable {X : Cx} {o i e : Expr} {pos : Pos} {td ty : TE}
theorem pe_ngetK (K : PySem.W.Frag) (w : World) (hK : X.K = K) (hw : X.w = w) (hu : X.A.units + 64 < cLine) (ho : PE X o td) (hi : PE X i ty) (hs : NoSl i) : PE X (.Subscript o i pos) (tNGet K w td ty) := by
  subst hK
  subst hw
  exact pe_nget hu ho hi hs
theorem pc_ninK (K : PySem.W.Frag) (w : World) (hK : X.K = K) (hw : X.w = w) (hu : X.A.units + 64 < cLine) (hi : PE X i ty) (ho : PE X o td) : PC X .In i o (tNIn K w ty td) := by
  subst hK
  subst hw
  exact pc_nin hu hi ho
theorem pc_nnotinK (K : PySem.W.Frag) (w : World) (hK : X.K = K) (hw : X.w = w) (hu : X.A.units + 64 < cLine) (hi : PE X i ty) (ho : PE X o td) : PC X .NotIn i o (tNNotIn K w ty td) := by
  subst hK
  subst hw
  exact pc_nnotin hu hi ho
end
/-! ### max(.., default=d) of numbers -/
theorem maxOf_int : ∀ (ys : List Int) (y : Int), PySem.W.maxOf y ys ∈ y :: ys ∧ ∀ x ∈ y :: ys, x ≤ PySem.W.maxOf y ys
  | [], y => ⟨List.mem_cons_self, fun x hx => by rw [List.mem_singleton.mp hx]; exact Int.le_refl _⟩
  | u :: ys, y => by
    have e : PySem.W.maxOf y (u :: ys) = PySem.W.maxOf (if PySem.W.DatumOrd.lt y u = true then u else y) ys := rfl
    have l : PySem.W.DatumOrd.lt y u = decide (y < u) := rfl
    rw [e, l]
    by_cases c : y < u
    · rw [if_pos (decide_eq_true c)]
      obtain ⟨h1, h2⟩ := maxOf_int ys u
      refine ⟨List.mem_cons_of_mem _ h1, fun x hx => ?_⟩
      rcases List.mem_cons.mp hx with rfl | hx
      · have := h2 u List.mem_cons_self
        omega
      · exact h2 x hx
    · rw [if_neg (by simpa using c)]
      obtain ⟨h1, h2⟩ := maxOf_int ys y
      refine ⟨?_, fun x hx => ?_⟩
      · rcases List.mem_cons.mp h1 with e | e
        · rw [e]
          exact List.mem_cons_self
        · exact List.mem_cons_of_mem _ (List.mem_cons_of_mem _ e)
      · rcases List.mem_cons.mp hx with rfl | hx
        · exact h2 x List.mem_cons_self
        · rcases List.mem_cons.mp hx with rfl | hx
          · have := h2 y List.mem_cons_self
            omega
          · exact h2 x (List.mem_cons_of_mem _ hx)
def rMaxDf (K : PySem.W.Frag) : List V → List V → Hp → VK → Prop := fun vs zs H Q => ∃ (a : Addr) (ns : List Int) (d : Int), vs = [V.ref a] ∧ zs = [V.int d] ∧ SqL K H a (ns.map V.int) ∧ ∀ m : Int, (ns = [] → m = d) → (ns ≠ [] → m ∈ ns ∧ ∀ x ∈ ns, x ≤ m) → Q (.int m) H
section
variable {X : Cx}
theorem ints_holdAll {h : Heap} : ∀ {ns : List Int} {us : List Value}, Vals (ns.map V.int) us → ReadsAll h us (ns.map PyData.int) []
  | [], _, .nil => .nil
  | n :: ns, _, .cons ⟨t, e⟩ r => by
    subst e
    exact .cons (as := []) (bs := []) (.int _ _) (ints_holdAll r)
theorem cr_maxDf (hc : X.calm = true) (hu : X.A.units + 64 < cLine) : CallRK X (.builtin "max") [Str.ofString "default"] (rMaxDf X.K) := by
  intro pins s σ H vs zs us ws Q I r rz h
  obtain ⟨a, ns, d, rfl, rfl, hs, q⟩ := h
  obtain rfl := Vals.ref1 r
  obtain ⟨w1, rfl, t, rfl⟩ := vals1 rz
  obtain ⟨its, rv, pl, _⟩ := I.list hs
  refine PySem.W.max_list_datum_default (α := Int) (xs := ns) (I.ok.hd hc) pl.isList ⟨[], by rw [List.toList_toArray]; exact ints_holdAll rv⟩ (by show X.A.units + 1 + 0 < cLine; omega) (fun e h' tk k => ?_) fun y ys i v h' tk e hi hv k => ?_
  · exact ⟨.int d, H, I.kept (t' := tk) k, ⟨t, rfl⟩, q d (fun _ => rfl) fun n => absurd e n⟩
  · have hi' : its[i]? = some v := by simpa using hi
    obtain ⟨x, hx, t', rfl⟩ : ∃ x, ns[i]? = some x ∧ ∃ t', v = .int x t' := by
      have hl := rv.length
      have lt : i < its.length := (List.getElem?_eq_some_iff.mp hi').1
      have lx : i < (ns.map V.int).length := by rw [hl]; exact lt
      obtain ⟨w', ew, rw'⟩ := rv.get (List.getElem?_eq_getElem lx)
      rw [hi'] at ew
      cases ew
      rw [List.getElem_map] at rw'
      exact ⟨_, List.getElem?_eq_getElem (by rw [List.length_map] at lx; exact lx), rw'⟩
    obtain ⟨as, rd⟩ := hv
    have ex : x = PySem.W.maxOf y ys := by
      cases rd
      rfl
    obtain ⟨m1, m2⟩ := maxOf_int ys y
    rw [← ex, ← e] at m1 m2
    exact ⟨.int x, H, I.kept (t' := tk) k, ⟨t', rfl⟩, q x (fun n => by rw [n] at e; cases e) fun _ => ⟨m1, m2⟩⟩
end
/-! ### sorted(d.items()): dicts of nested keys -/
/-- the view of the items of the dict at d -/
def ViewO (v d : Addr) : HO := .ext fun h => h.get? v = some { cls := .type "dict_items", data := .fields #[.ref d] }
theorem viewO_ne {v d : Addr} {u : HO} (n : ∀ φ, u ≠ .ext φ) : ViewO v d ≠ u := fun z => n _ z.symm
def tItemsV (w : World) (td : TE) : TE := fun σ H Q => td σ H fun x H1 => ∃ (d : Addr) (L : List (PyData × Addr × V)), x = .ref d ∧ H1 d = some (DictKO w d L) ∧ ∀ v, H1 v = none → Q (.ref v) (upd H1 v (ViewO v d))
section
variable {X : Cx} {pins : List (Addr × Obj)} {σ : L2.St} {H : Hp} {s : Shared} {d : Addr} {L : List (PyData × Addr × V)}
theorem dicN (I : Inv X pins σ H s) (e : H d = some (DictKO X.w d L)) : (d == sysModules) = false ∧ ∃ (o : Obj) (es : Array DictEntry) (ep : Nat), s.heap.get? d = some o ∧ o.ExactDict ∧ o.data = .dict es ep ∧ es.size = L.length ∧ L.length ≤ sizeLine ∧
    ∀ (i : Nat) (k : PyData) (b : Addr) (v : V), L[i]? = some (k, b, v) → ∃ en : DictEntry, es[i]? = some en ∧ en.key = .ref b ∧ RelV v en.val := by
  obtain ⟨q, _⟩ := (show ObjOk X.prog X.w H s.heap d (DictKO X.w d L) from I.hok d _ e)
  obtain ⟨q0, q1, xs, rel, o, es, ep, at1, ex, dat, rows, nd⟩ := (show DictN X.w s.heap d L from q)
  refine ⟨q0, o, es, ep, at1, ex, dat, ?_, q1, fun i k b v h => ?_⟩
  · rw [← Array.length_toList, rows, List.length_map, kv3_len rel]
  · obtain ⟨x, hx, e1, e2, e3⟩ := kv3_get rel h
    refine ⟨⟨x.1.hash X.w, .ref x.2.1, x.2.2⟩, ?_, congrArg Value.ref e2, e3⟩
    rw [← Array.getElem?_toList, rows, List.getElem?_map, hx]
    rfl
end
section
variable {X : Cx} {e : Expr} {td : TE} {apos cpos : Pos}
theorem pe_itemsV (he : PE X e td) (hbase : attributeBase e "items" X.env (eval e X.env) = eval e X.env := by rfl) (hline : (apos.endLine == cpos.line) = true := by rfl) :
    PE X (.Call (.Attribute e "items" apos) [] [] cpos) (tItemsV X.w td) := by
  refine ⟨fun pins s σ H Q I h => ?_⟩
  refine wpAny_Call_method (T := "dict") (id := "dict.items") hbase rfl hline PySem.F.plainAttrs_dict PySem.F.slot_dict_items PySem.F.type_dict_items (thn (he.run pins s σ H _ I h) fun u s1 ⟨x, H1, I1, rx, d, L, ex, hd, q⟩ => ?_)
  subst ex
  obtain rfl : u = Value.ref d := rx
  obtain ⟨hs, o, es, ep, hgd, hx, hdt, _⟩ := dicN I1 hd
  refine ⟨⟨o, hgd, hx.1⟩, fun b q => ?_, ?_⟩
  · cases q
    exact ⟨o, hgd, hx.2.1⟩
  have fin : EP X pins σ Q (.ref s1.heap.objs.size) { s1 with heap := s1.heap.push { cls := .type "dict_items", data := .fields #[.ref d] } } := by
    have hg := Heap.get?_push_size s1.heap (o := { cls := .type "dict_items", data := .fields #[.ref d] }) rfl
    have new : ObjOk X.prog X.w (upd H1 s1.heap.objs.size (ViewO s1.heap.objs.size d)) (s1.heap.push { cls := .type "dict_items", data := .fields #[.ref d] }) s1.heap.objs.size (ViewO s1.heap.objs.size d) := ⟨hg, ⟨_, hg⟩, fun h1 h2 p k => k _ p⟩
    exact ⟨.ref _, _, I1.laid (t' := s1.toks) (fun b ob q => Heap.get?_push_of_some _ q) (Nat.le_refl _) new, rfl, q _ (I1.hok.fresh (Nat.le_refl _))⟩
  show wpAny _ _ (callWith cpos (.builtin "dict.items") [.ref d] [] []) _ X.xe s1
  exact method_meetsIn PySem.F.slot_dict_items PySem.F.entry_dict_items rfl (PySem.evalArgs_none ⟨rfl, ⟨o, hgd, hx.1⟩, PySem.F.args_dict_items_1 _, _, meets_dict_items_raw d hs, ⟨es, ep, ⟨o, hgd, hx, hdt⟩⟩, fin⟩)
theorem pe_itemsVW (w : World) (hw : X.w = w) (he : PE X e td) (hbase : attributeBase e "items" X.env (eval e X.env) = eval e X.env := by rfl) (hline : (apos.endLine == cpos.line) = true := by rfl) :
    PE X (.Call (.Attribute e "items" apos) [] [] cpos) (tItemsV w td) := hw ▸ pe_itemsV he hbase hline
end
def rSortIt (K : PySem.W.Frag) (w : World) : List V → Hp → VK → Prop := fun vs H Q => ∃ (v d : Addr) (L : List (PyData × Addr × V)) (es : List PyData), vs = [V.ref v] ∧ H v = some (ViewO v d) ∧ H d = some (DictKO w d L) ∧ KeysD K H L ∧ DpAll K H (L.map fun q => q.2.2) es ∧
  (∀ p ∈ L.zip es, ∀ q ∈ L.zip es, PySem.W.alike p.1.1 q.1.1 = true ∧ PySem.W.alike p.2 q.2 = true) ∧ (∀ e ∈ es, e.depth ≤ 40) ∧
  ∀ (p : Addr) (M : List ((PyData × Addr × V) × Addr)) (J : Hp), (M.map Prod.fst).Perm L → Grow H J → H p = none → J p = some (.lst (M.map fun m => V.ref m.2)) → (∀ m ∈ M, J m.2 = some (.tup [.ref m.1.2.1, m.1.2.2])) → Q (.ref p) J
theorem each_zip {β : Type} : ∀ {ps : List β} {as : List Addr}, ps.length = as.length → PySem.W.EachIs (fun (v : Value) (b : β × Addr) => v = Value.ref b.2) (as.map Value.ref) (ps.zip as)
  | [], [], _ => .nil
  | [], _ :: _, h => by cases h
  | _ :: _, [], h => by cases h
  | _ :: _, _ :: _, h => .cons rfl (each_zip (Nat.succ.inj h))
theorem each_refs {β : Type} : ∀ {us : List Value} {bs : List (β × Addr)}, PySem.W.EachIs (fun (v : Value) (b : β × Addr) => v = Value.ref b.2) us bs → us = bs.map fun b => Value.ref b.2
  | _, _, .nil => rfl
  | _, _, .cons e t => by rw [List.map_cons, ← each_refs t, e]
theorem vals_refs : ∀ (as : List Addr), Vals (as.map V.ref) (as.map Value.ref)
  | [] => .nil
  | _ :: as => .cons rfl (vals_refs as)
section
variable {X : Cx}
open PySem.W PySem.Calls
theorem cr_sortIt (hc : X.calm = true) (hu : X.A.units + 64 < cLine) : CallR X (.builtin "sorted") (rSortIt X.K X.w) := by
  intro pins s σ H vs us Q I r h
  obtain ⟨v, d, L, es, rfl, hv, hd, kd, de, al, dp, q⟩ := h
  rw [Vals.ref1 r]
  obtain ⟨q0, o, ds, ep, hgd, hx, hdt, hsz, hlen, ent⟩ := dicN I hd
  have hview : s.heap.get? v = some { cls := .type "dict_items", data := .fields #[.ref d] } := (show ObjOk X.prog X.w H s.heap v (ViewO v d) from I.hok v _ hv).1
  have les : L.length = es.length := by have := dpAll_len de; rwa [List.length_map] at this
  refine DT.sortedI (I.ok.hd hc) ⟨_, hview, rfl, rfl⟩ ⟨o, hgd, hx, hdt⟩ (by omega) fun h' tk as hk hlt hl made => ?_
  have lz : (L.zip es).length = as.length := by rw [List.length_zip]; omega
  have ho : (h'.push { cls := .type "list", data := .seq (as.map Value.ref).toArray }).get? h'.objs.size = some (seqObj "list" (as.map Value.ref).toArray 0) := Heap.get?_push_size _ rfl
  have at_ : ∀ b ∈ (L.zip es).zip as, ∃ j, L[j]? = some b.1.1 ∧ es[j]? = some b.1.2 ∧ as[j]? = some b.2 := fun b hb => by
    obtain ⟨j, hj⟩ := List.mem_iff_getElem?.mp hb
    obtain ⟨h1, h2⟩ := List.getElem?_zip_eq_some.mp hj
    obtain ⟨h3, h4⟩ := List.getElem?_zip_eq_some.mp h1
    exact ⟨j, h3, h4, h2⟩
  have pair : ∀ b ∈ (L.zip es).zip as, ∃ (en : DictEntry), en.key = .ref b.1.1.2.1 ∧ RelV b.1.1.2.2 en.val ∧ h'.get? b.2 = some { cls := .type "tuple", data := .seq #[en.key, en.val] } := fun b hb => by
    obtain ⟨j, h1, h2, h3⟩ := at_ b hb
    obtain ⟨en, e1, e2, e3⟩ := ent j _ _ _ h1
    obtain ⟨en', e4, e5⟩ := made.pairs j _ h3
    rw [e1] at e4
    cases e4
    exact ⟨en, e2, e3, e5⟩
  have reads : ∀ b ∈ (L.zip es).zip as, ∃ rs, Reads (h'.push { cls := .type "list", data := .seq (as.map Value.ref).toArray }) (.ref b.2) (.tuple [b.1.1.1, b.1.2]) rs ∧ h'.objs.size ∉ rs := fun b hb => by
    obtain ⟨en, e1, e2, e3⟩ := pair b hb
    obtain ⟨j, h1, h2, h3⟩ := at_ b hb
    obtain ⟨_, _, k3⟩ := kd b.1.1 (List.mem_of_getElem? h1)
    obtain ⟨e', he', dv⟩ := dpAll_get de (show (L.map fun q => q.2.2)[j]? = some b.1.1.2.2 by rw [List.getElem?_map, h1]; rfl)
    rw [h2] at he'
    cases he'
    obtain ⟨r1, hr1⟩ := Dp.reads I _ _ en.key k3 (by rw [e1]; rfl)
    obtain ⟨r2, hr2⟩ := Dp.reads I _ _ en.val dv e2
    have keep : ∀ b o, s.heap.get? b = some o → (h'.push { cls := .type "list", data := .seq (as.map Value.ref).toArray }).get? b = some o := fun b o e => Heap.get?_push_of_some _ (hk b o e)
    refine ⟨r1 ++ (r2 ++ []), .tuple (Heap.get?_push_of_some _ e3) rfl rfl (.cons (PyProof.Rows.Reads.keeps keep hr1) (.cons (PyProof.Rows.Reads.keeps keep hr2) .nil)), fun hm => ?_⟩
    have old : ∀ x ∈ r1 ++ r2, x < s.heap.objs.size := fun x hx => by
      rcases List.mem_append.mp hx with hx | hx
      · obtain ⟨o, e⟩ := PyProof.On.reads_mem_get hr1 x hx
        exact Heap.lt_size e
      · obtain ⟨o, e⟩ := PyProof.On.reads_mem_get hr2 x hx
        exact Heap.lt_size e
    rw [List.append_nil] at hm
    exact absurd (old _ hm) (Nat.not_lt.mpr (Nat.le_of_lt hlt))
  have e1 := each_zip (ps := L.zip es) (as := as) lz
  refine list_sort_data (enc := fun b : ((PyData × Addr × V) × PyData) × Addr => .tuple [b.1.1.1, b.1.2]) ho e1 ((each_mem e1).mono fun v b ⟨ev, hb⟩ => by rw [ev]; exact reads b hb) ?_ ?_ ?_ ?_ fun out ho2 eo => ?_
  · intro x hx y hy
    obtain ⟨b, hb, rfl⟩ := List.mem_map.mp hx
    obtain ⟨c, hc', rfl⟩ := List.mem_map.mp hy
    obtain ⟨a1, a2⟩ := al b.1 (List.of_mem_zip hb).1 c.1 (List.of_mem_zip hc').1
    simp only [PySem.W.alike, PySem.W.alikeAll, a1, a2, Bool.and_self]
  · refine .inl fun x hx => ?_
    obtain ⟨b, hb, rfl⟩ := List.mem_map.mp hx
    exact ⟨_, _, rfl⟩
  · rw [List.length_zip, List.length_zip]
    omega
  · intro b hb
    obtain ⟨j, h1, h2, h3⟩ := at_ b hb
    have d1 := (kd b.1.1 (List.mem_of_getElem? h1)).2.1
    have d2 := dp b.1.2 (List.mem_of_getElem? h2)
    have eu : X.A.in1.units = X.A.units + 1 := rfl
    have : (PyData.tuple [b.1.1.1, b.1.2]).depth ≤ 50 := by
      simp only [PyData.depth, PyData.depthAll]
      omega
    omega
  · have eout := each_refs eo
    subst eout
    have pm : (((L.zip es).zip as).mergeSort (dataLe false fun b => PyData.tuple [b.1.1.1, b.1.2])).Perm ((L.zip es).zip as) := List.mergeSort_perm _ _
    generalize ((L.zip es).zip as).mergeSort (dataLe false fun b => PyData.tuple [b.1.1.1, b.1.2]) = bs at eo ho2 pm
    have lbs := pm.length_eq
    rw [List.length_zip] at lbs
    obtain ⟨ep', he'⟩ := PyProof.Rows.sortedHeap_at (out := (bs.map fun b => Value.ref b.2).toArray) ho
    have kp : ∀ b o, h'.get? b = some o → (sortedHeap (h'.push { cls := .type "list", data := .seq (as.map Value.ref).toArray }) h'.objs.size (as.map Value.ref) (bs.map fun b => Value.ref b.2).toArray).get? b = some o := fun b o e => by
      have lt := Heap.lt_size e
      rw [PyProof.Rows.sortedHeap_old (Nat.ne_of_lt lt) (by rw [Heap.size_push]; exact Nat.lt_succ_of_lt lt)]
      exact Heap.get?_push_of_some _ e
    have keep : ∀ b o, s.heap.get? b = some o → (sortedHeap (h'.push { cls := .type "list", data := .seq (as.map Value.ref).toArray }) h'.objs.size (as.map Value.ref) (bs.map fun b => Value.ref b.2).toArray).get? b = some o := fun b o e => kp b o (hk b o e)
    have lzz : ((L.zip es).zip as).length ≤ sizeLine := by rw [List.length_zip, List.length_zip]; omega
    have new : ObjOk X.prog X.w (upd H h'.objs.size (.lst (bs.map fun b => V.ref b.2))) (sortedHeap (h'.push { cls := .type "list", data := .seq (as.map Value.ref).toArray }) h'.objs.size (as.map Value.ref) (bs.map fun b => Value.ref b.2).toArray) h'.objs.size (.lst (bs.map fun b => V.ref b.2)) := by
      refine ⟨by rw [List.length_map, pm.length_eq]; exact lzz, bs.map (fun b => Value.ref b.2), ep', ?_, he'⟩
      have := vals_refs (bs.map fun b => b.2)
      rwa [List.map_map, List.map_map] at this
    have I1 := I.laid (t' := tk) keep (Nat.le_of_lt hlt) new
    have mas : ∀ b ∈ (L.zip es).zip as, s.heap.objs.size < b.2 ∧ b.2 < h'.objs.size := fun b hb => by
      obtain ⟨_, _, _, h3⟩ := at_ b hb
      exact ⟨made.above _ (List.mem_of_getElem? h3), made.there (List.mem_of_getElem? h3)⟩
    have snd : ∀ {ps : List ((PyData × Addr × V) × PyData)} {as : List Addr}, ps.length = as.length → (ps.zip as).map Prod.snd = as := fun h => by rw [List.map_snd_zip (Nat.le_of_eq h.symm)]
    have fstTL : (((L.zip es).zip as).map fun b => (b.2, [V.ref b.1.1.2.1, b.1.1.2.2])).map Prod.fst = as := by
      rw [List.map_map]
      exact snd lz
    have I2 := Inv.more (L := ((L.zip es).zip as).map fun b => (b.2, [V.ref b.1.1.2.1, b.1.1.2.2])) I I1 (fun b hb => ?_) (fun p hp => ?_)
    · have I2 : Inv X pins σ (tupsAt (((L.zip es).zip as).map fun b => (b.2, [V.ref b.1.1.2.1, b.1.1.2.2])) (upd H h'.objs.size (.lst (bs.map fun b => V.ref b.2)))) { heap := sortedHeap (h'.push { cls := .type "list", data := .seq (as.map Value.ref).toArray }) h'.objs.size (as.map Value.ref) (bs.map fun b => Value.ref b.2).toArray, gens := s.gens, drawn := s.drawn, toks := tk, os := s.os } := I2
      have out : ∀ a, a ∉ as → tupsAt (((L.zip es).zip as).map fun b => (b.2, [V.ref b.1.1.2.1, b.1.1.2.2])) (upd H h'.objs.size (.lst (bs.map fun b => V.ref b.2))) a = upd H h'.objs.size (.lst (bs.map fun b => V.ref b.2)) a := fun a ha => tupsAt_out (by rw [fstTL]; exact ha)
      have inn := tupsAt_in (L := ((L.zip es).zip as).map fun b => (b.2, [V.ref b.1.1.2.1, b.1.1.2.2])) (H := upd H h'.objs.size (.lst (bs.map fun b => V.ref b.2))) (by rw [fstTL]; exact made.rise.imp fun h => Nat.ne_of_lt h)
      have fresh : H h'.objs.size = none := I.hok.fresh (Nat.le_of_lt hlt)
      have pas : h'.objs.size ∉ as := fun h => Nat.lt_irrefl _ (made.there h)
      have gr : Same H (tupsAt (((L.zip es).zip as).map fun b => (b.2, [V.ref b.1.1.2.1, b.1.1.2.2])) (upd H h'.objs.size (.lst (bs.map fun b => V.ref b.2)))) := fun a o e => by
        have na : a ∉ as := fun h => by
          have := I.hok.fresh (Nat.le_of_lt (made.above a h))
          rw [e] at this
          cases this
        rw [out a na, upd_ne (ne_of_none e fresh)]
        exact e
      refine ⟨.ref h'.objs.size, _, I2, rfl, q h'.objs.size (bs.map fun b => (b.1.1, b.2)) _ ?_ (Grow.of_same gr) fresh ?_ ?_⟩
      · rw [List.map_map]
        have h1 := pm.map (fun b : ((PyData × Addr × V) × PyData) × Addr => b.1.1)
        have h2 : ((L.zip es).zip as).map (fun b : ((PyData × Addr × V) × PyData) × Addr => b.1.1) = L := by
          have e1 : ((L.zip es).zip as).map (fun b : ((PyData × Addr × V) × PyData) × Addr => b.1.1) = (((L.zip es).zip as).map Prod.fst).map Prod.fst := by rw [List.map_map]; rfl
          rw [e1, List.map_fst_zip (Nat.le_of_eq lz), List.map_fst_zip (Nat.le_of_eq les)]
        rw [h2] at h1
        exact h1
      · rw [out _ pas, upd_same, List.map_map]
        rfl
      · intro m hm
        obtain ⟨b, hb, rfl⟩ := List.mem_map.mp hm
        exact inn _ (List.mem_map_of_mem (pm.mem_iff.mp hb))
    · rw [fstTL] at hb
      refine ⟨?_, ?_⟩
      · cases e : s.heap.get? b with
        | none => rfl
        | some o => exact absurd (Heap.lt_size e) (Nat.not_lt.mpr (Nat.le_of_lt (made.above b hb)))
      · rw [upd_ne (Nat.ne_of_lt (made.there hb))]
        exact I.hok.fresh (Nat.le_of_lt (made.above b hb))
    · obtain ⟨b, hb, rfl⟩ := List.mem_map.mp hp
      obtain ⟨en, e1, e2, e3⟩ := pair b hb
      exact ⟨by show 2 ≤ sizeLine; decide, [en.key, en.val], .cons (by rw [e1]; rfl) (.cons e2 .nil), ⟨_, kp _ _ e3, rfl, _, rfl⟩⟩
end
/-! ### len of a dict of nested keys -/
def rLenN (K : PySem.W.Frag) (w : World) : List V → Hp → VK → Prop := fun vs H Q => ∃ (a : Addr) (L : List (PyData × Addr × V)), vs = [V.ref a] ∧ H a = some (DictKO w a L) ∧ KeysD K H L ∧ Q (.int (L.length : Int)) H
section
variable {X : Cx}
theorem cr_lenN : CallR X (.builtin "len") (rLenN X.K X.w) := by
  intro pins s σ H xs us Q I r h
  obtain ⟨a, L, rfl, ha, hk, q⟩ := h
  obtain ⟨u, rfl, rx⟩ := r.one
  cases rx
  obtain ⟨hs, z, ks, rel, dd⟩ := dictN_open I ha hk
  have l2 := kv3_len rel
  have fit : ((ks.length : Nat) : Int) < 2 ^ 63 := by
    have : sizeLine < 2 ^ 62 := by decide
    omega
  refine call_len_dictH hs dd fit ?_
  exact ⟨.int (L.length : Int), H, I.tok _, ⟨_, by rw [l2]⟩, q⟩
end
def topAt (i : Nat) : Stmt := PySem.Challenge.pw_sentnext_k29_stairs_of_rests.main.body.getD i (.Pass ⟨0, 0, 0, 0⟩)
abbrev s_whole : Stmt := topAt 1
abbrev s_changes_of : Stmt := topAt 3
abbrev s_is_course : Stmt := topAt 4
abbrev s_heads_back : Stmt := topAt 5
abbrev s_named_by : Stmt := topAt 6
abbrev s_asks : Stmt := topAt 8
abbrev s_behind : Stmt := topAt 9
abbrev s_hold_of : Stmt := topAt 12
abbrev s_beginnings : Stmt := topAt 13
abbrev s_firsts : Stmt := topAt 14
abbrev s_may_name : Stmt := topAt 15
abbrev s_turns : Stmt := topAt 16
abbrev s_answered : Stmt := topAt 17
abbrev s_goes_to : Stmt := topAt 18
abbrev s_leads_of : Stmt := topAt 20
abbrev s_ways_back : Stmt := topAt 21
abbrev s_served_order : Stmt := topAt 22
abbrev s_greatest_costs : Stmt := topAt 23
abbrev s_moments_left : Stmt := topAt 24
abbrev s_greatest_at_first : Stmt := topAt 25
abbrev s_latest : Stmt := topAt 26
abbrev s_stairs : Stmt := topAt 29
abbrev s_deck : Stmt := topAt 31
abbrev s_draw : Stmt := topAt 32
abbrev s_one : Stmt := topAt 33
abbrev s_power : Stmt := topAt 34
abbrev s_house : Stmt := topAt 35
abbrev s_rest_kept : Stmt := topAt 36
abbrev s_table : Stmt := topAt 37
abbrev s_rows_that_fit : Stmt := topAt 38
abbrev s_asked : Stmt := topAt 39
abbrev s_later : Stmt := topAt 40
abbrev s_hold : Stmt := topAt 41
abbrev s_heads : Stmt := topAt 42
abbrev s_l_firsts : Stmt := topAt 43
abbrev s_on : Stmt := topAt 44
abbrev s_said : Stmt := topAt 45
abbrev s_goes : Stmt := topAt 46
abbrev s_reached : Stmt := topAt 47
abbrev s_numbers : Stmt := topAt 48
abbrev s_number : Stmt := topAt 49
abbrev s_law : Stmt := topAt 50
theorem sc_whole : FnScope ["value", "low", "high"] ["value", "low", "high"] (defScope s_whole) :=
  ⟨rfl, rfl, rfl, by decide +kernel, rfl, by decide +kernel, by decide +kernel⟩
theorem sc_changes_of : FnScope ["course"] ["course"] (defScope s_changes_of) :=
  ⟨rfl, rfl, rfl, by decide +kernel, rfl, by decide +kernel, by decide +kernel⟩
theorem sc_is_course : FnScope ["house", "value", "servers", "rest", "_", "head", "changes", "soon", "late"] ["house", "value"] (defScope s_is_course) :=
  ⟨rfl, rfl, rfl, by decide +kernel, rfl, by decide +kernel, by decide +kernel⟩
theorem sc_heads_back : FnScope ["house", "course", "moment", "lag"] ["house", "course", "moment"] (defScope s_heads_back) :=
  ⟨rfl, rfl, rfl, by decide +kernel, rfl, by decide +kernel, by decide +kernel⟩
theorem sc_named_by : FnScope ["heads", "server", "named", "head"] ["heads", "server"] (defScope s_named_by) :=
  ⟨rfl, rfl, rfl, by decide +kernel, rfl, by decide +kernel, by decide +kernel⟩
theorem sc_asks : FnScope ["house", "table", "asker", "row", "named", "asked", "deed"] ["house", "table", "asker"] (defScope s_asks) :=
  ⟨rfl, rfl, rfl, by decide +kernel, rfl, by decide +kernel, by decide +kernel⟩
theorem sc_behind : FnScope ["house", "table", "asker", "name", "row", "named", "asked", "_", "ahead", "again", "server"] ["house", "table", "asker", "name"] (defScope s_behind) :=
  ⟨rfl, rfl, rfl, by decide +kernel, rfl, by decide +kernel, by decide +kernel⟩
theorem sc_hold_of : FnScope ["house", "course", "changes", "ago"] ["house", "course"] (defScope s_hold_of) :=
  ⟨rfl, rfl, rfl, by decide +kernel, rfl, by decide +kernel, by decide +kernel⟩
theorem sc_beginnings : FnScope ["house", "servers", "_", "lag", "rows", "row", "head"] ["house"] (defScope s_beginnings) :=
  ⟨rfl, rfl, rfl, by decide +kernel, rfl, by decide +kernel, by decide +kernel⟩
theorem sc_firsts : FnScope ["house", "lag", "course"] ["house"] (defScope s_firsts) :=
  ⟨rfl, rfl, rfl, by decide +kernel, rfl, by decide +kernel, by decide +kernel⟩
theorem sc_may_name : FnScope ["house", "standing", "server"] ["house", "standing", "server"] (defScope s_may_name) :=
  ⟨rfl, rfl, rfl, by decide +kernel, rfl, by decide +kernel, by decide +kernel⟩
theorem sc_turns : FnScope ["house", "heads", "hold", "servers", "rest", "_", "older"] ["house", "heads", "hold"] (defScope s_turns) :=
  ⟨rfl, rfl, rfl, by decide +kernel, rfl, by decide +kernel, by decide +kernel⟩
theorem sc_answered : FnScope ["house", "table", "standing", "asker", "server"] ["house", "table", "standing"] (defScope s_answered) :=
  ⟨rfl, rfl, rfl, by decide +kernel, rfl, by decide +kernel, by decide +kernel⟩
theorem sc_goes_to : FnScope ["house", "table", "standing", "heads", "hold", "_", "askers", "row", "stays", "asker"] ["house", "table", "standing"] (defScope s_goes_to) :=
  ⟨rfl, rfl, rfl, by decide +kernel, rfl, by decide +kernel, by decide +kernel⟩
theorem sc_leads_of : FnScope ["house", "table", "leads", "ready", "standing"] ["house", "table"] (defScope s_leads_of) :=
  ⟨rfl, rfl, rfl, by decide +kernel, rfl, by decide +kernel, by decide +kernel⟩
theorem sc_ways_back : FnScope ["leads", "back", "standing", "later", "one"] ["leads"] (defScope s_ways_back) :=
  ⟨rfl, rfl, rfl, by decide +kernel, rfl, by decide +kernel, by decide +kernel⟩
theorem sc_served_order : FnScope ["leads", "back", "missing", "standing", "later", "ready", "order", "one"] ["leads"] (defScope s_served_order) :=
  ⟨rfl, rfl, rfl, by decide +kernel, rfl, by decide +kernel, by decide +kernel⟩
theorem sc_greatest_costs : FnScope ["leads", "costs", "left", "standing", "one"] ["leads", "costs"] (defScope s_greatest_costs) :=
  ⟨rfl, rfl, rfl, by decide +kernel, rfl, by decide +kernel, by decide +kernel⟩
theorem sc_moments_left : FnScope ["leads", "standing"] ["leads"] (defScope s_moments_left) :=
  ⟨rfl, rfl, rfl, by decide +kernel, rfl, by decide +kernel, by decide +kernel⟩
theorem sc_greatest_at_first : FnScope ["house", "left", "begun", "standing"] ["house", "left"] (defScope s_greatest_at_first) :=
  ⟨rfl, rfl, rfl, by decide +kernel, rfl, by decide +kernel, by decide +kernel⟩
theorem sc_latest : FnScope ["house", "table"] ["house", "table"] (defScope s_latest) :=
  ⟨rfl, rfl, rfl, by decide +kernel, rfl, by decide +kernel, by decide +kernel⟩
theorem sc_stairs : FnScope ["house", "table", "servers", "_", "lag", "steps", "rest", "number"] ["house", "table"] (defScope s_stairs) :=
  ⟨rfl, rfl, rfl, by decide +kernel, rfl, by decide +kernel, by decide +kernel⟩
theorem sc_deck : FnScope ["_law_script"] ["_law_script"] (defScope s_deck) :=
  ⟨rfl, rfl, rfl, by decide +kernel, rfl, by decide +kernel, by decide +kernel⟩
theorem sc_draw : FnScope ["_law_deck_here", "_law_many", "_law_found", "_law_cell", "_law_mixed"] ["_law_deck_here", "_law_many"] (defScope s_draw) :=
  ⟨rfl, rfl, rfl, by decide +kernel, rfl, by decide +kernel, by decide +kernel⟩
theorem sc_one : FnScope ["_law_deck_here", "_law_items"] ["_law_deck_here", "_law_items"] (defScope s_one) :=
  ⟨rfl, rfl, rfl, by decide +kernel, rfl, by decide +kernel, by decide +kernel⟩
theorem sc_power : FnScope ["_law_servers", "_law_lag", "_law_found", "_law_k"] ["_law_servers", "_law_lag"] (defScope s_power) :=
  ⟨rfl, rfl, rfl, by decide +kernel, rfl, by decide +kernel, by decide +kernel⟩
theorem sc_house : FnScope ["_law_deck_here", "_law_room", "_law_servers", "_law_fits", "_law_lag"] ["_law_deck_here", "_law_room"] (defScope s_house) :=
  ⟨rfl, rfl, rfl, by decide +kernel, rfl, by decide +kernel, by decide +kernel⟩
theorem sc_rest_kept : FnScope ["_law_course", "_law_rest", "_law_some", "_law_moment", "_law_one_here", "_law_other"] ["_law_course", "_law_rest"] (defScope s_rest_kept) :=
  ⟨rfl, rfl, rfl, by decide +kernel, rfl, by decide +kernel, by decide +kernel⟩
theorem sc_table : FnScope ["_law_deck_here", "_law_room", "_law_many", "_law_found", "_law_k", "_law_act"] ["_law_deck_here", "_law_room"] (defScope s_table) :=
  ⟨rfl, rfl, rfl, by decide +kernel, rfl, by decide +kernel, by decide +kernel⟩
theorem sc_rows_that_fit : FnScope ["_law_house_here"] ["_law_house_here"] (defScope s_rows_that_fit) :=
  ⟨rfl, rfl, rfl, by decide +kernel, rfl, by decide +kernel, by decide +kernel⟩
theorem sc_asked : FnScope ["_law_house_here", "_law_table_here", "_law_asker", "_law_act"] ["_law_house_here", "_law_table_here", "_law_asker"] (defScope s_asked) :=
  ⟨rfl, rfl, rfl, by decide +kernel, rfl, by decide +kernel, by decide +kernel⟩
theorem sc_later : FnScope ["_law_house_here", "_law_table_here", "_law_asker", "_law_name", "_law_row", "_law_named", "_law_asked_here", "_law_act", "_law_ahead", "_law_again"] ["_law_house_here", "_law_table_here", "_law_asker", "_law_name"] (defScope s_later) :=
  ⟨rfl, rfl, rfl, by decide +kernel, rfl, by decide +kernel, by decide +kernel⟩
theorem sc_hold : FnScope ["_law_house_here", "_law_course", "_law_moment", "_law_some", "_law_change"] ["_law_house_here", "_law_course", "_law_moment"] (defScope s_hold) :=
  ⟨rfl, rfl, rfl, by decide +kernel, rfl, by decide +kernel, by decide +kernel⟩
theorem sc_l_firsts : FnScope ["_law_house_here", "_law_some", "_law_k", "_law_longer", "_law_course", "_law_head"] ["_law_house_here"] (defScope s_l_firsts) :=
  ⟨rfl, rfl, rfl, by decide +kernel, rfl, by decide +kernel, by decide +kernel⟩
theorem sc_on : FnScope ["_law_house_here", "_law_heads_here", "_law_hold_here", "_law_found", "_law_head"] ["_law_house_here", "_law_heads_here", "_law_hold_here"] (defScope s_on) :=
  ⟨rfl, rfl, rfl, by decide +kernel, rfl, by decide +kernel, by decide +kernel⟩
theorem sc_said : FnScope ["_law_heads_here", "_law_server", "_law_found"] ["_law_heads_here", "_law_server"] (defScope s_said) :=
  ⟨rfl, rfl, rfl, by decide +kernel, rfl, by decide +kernel, by decide +kernel⟩
theorem sc_goes : FnScope ["_law_house_here", "_law_table_here", "_law_standing", "_law_heads_here", "_law_hold_here", "_law_asker", "_law_server", "_law_found", "_law_name", "_law_later_here", "_law_others", "_law_more"] ["_law_house_here", "_law_table_here", "_law_standing"] (defScope s_goes) :=
  ⟨rfl, rfl, rfl, by decide +kernel, rfl, by decide +kernel, by decide +kernel⟩
theorem sc_reached : FnScope ["_law_house_here", "_law_table_here", "_law_found", "_law_waiting", "_law_heads_here", "_law_hold_here", "_law_standing"] ["_law_house_here", "_law_table_here"] (defScope s_reached) :=
  ⟨rfl, rfl, rfl, by decide +kernel, rfl, by decide +kernel, by decide +kernel⟩
theorem sc_numbers : FnScope ["_law_house_here", "_law_table_here", "_law_ways", "_law_found", "_law_number_here", "_law_fresh", "_law_standing", "_law_some", "_law_later_here"] ["_law_house_here", "_law_table_here"] (defScope s_numbers) :=
  ⟨rfl, rfl, rfl, by decide +kernel, rfl, by decide +kernel, by decide +kernel⟩
theorem sc_number : FnScope ["_law_house_here", "_law_table_here", "_law_found", "_law_heads_here", "_law_hold_here"] ["_law_house_here", "_law_table_here"] (defScope s_number) :=
  ⟨rfl, rfl, rfl, by decide +kernel, rfl, by decide +kernel, by decide +kernel⟩
theorem sc_law : FnScope ["_law_script", "_law_deck_here", "_law_turn", "_law_house_here", "_law_table_here", "_law_held", "_law_due", "_law_rest", "_law_number_here", "_law_one_here"] ["_law_script"] (defScope s_law) :=
  ⟨rfl, rfl, rfl, by decide +kernel, rfl, by decide +kernel, by decide +kernel⟩
structure Txt (K : PySem.W.Frag) (mg : Str → Option Value) where
  a_whole : Addr
  d_whole : FuncData
  F_whole : Fun K "whole" "whole" s_whole a_whole d_whole
  g_whole : mg "whole" = some (.ref a_whole)
  b_whole : Binds K d_whole ["value", "low", "high"] []
  a_changes_of : Addr
  d_changes_of : FuncData
  F_changes_of : Fun K "changes_of" "changes_of" s_changes_of a_changes_of d_changes_of
  g_changes_of : mg "changes_of" = some (.ref a_changes_of)
  b_changes_of : Binds K d_changes_of ["course"] []
  c_changes_of : Addr
  p_changes_of : Addr
  h_changes_of : d_changes_of.code = .ref c_changes_of
  a_is_course : Addr
  d_is_course : FuncData
  F_is_course : Fun K "is_course" "is_course" s_is_course a_is_course d_is_course
  g_is_course : mg "is_course" = some (.ref a_is_course)
  b_is_course : Binds K d_is_course ["house", "value"] []
  a_heads_back : Addr
  d_heads_back : FuncData
  F_heads_back : Fun K "heads_back" "heads_back" s_heads_back a_heads_back d_heads_back
  g_heads_back : mg "heads_back" = some (.ref a_heads_back)
  b_heads_back : Binds K d_heads_back ["house", "course", "moment"] []
  c_heads_back : Addr
  p_heads_back : Addr
  h_heads_back : d_heads_back.code = .ref c_heads_back
  a_named_by : Addr
  d_named_by : FuncData
  F_named_by : Fun K "named_by" "named_by" s_named_by a_named_by d_named_by
  g_named_by : mg "named_by" = some (.ref a_named_by)
  b_named_by : Binds K d_named_by ["heads", "server"] []
  a_asks : Addr
  d_asks : FuncData
  F_asks : Fun K "asks" "asks" s_asks a_asks d_asks
  g_asks : mg "asks" = some (.ref a_asks)
  b_asks : Binds K d_asks ["house", "table", "asker"] []
  a_behind : Addr
  d_behind : FuncData
  F_behind : Fun K "behind" "behind" s_behind a_behind d_behind
  g_behind : mg "behind" = some (.ref a_behind)
  b_behind : Binds K d_behind ["house", "table", "asker", "name"] []
  a_hold_of : Addr
  d_hold_of : FuncData
  F_hold_of : Fun K "hold_of" "hold_of" s_hold_of a_hold_of d_hold_of
  g_hold_of : mg "hold_of" = some (.ref a_hold_of)
  b_hold_of : Binds K d_hold_of ["house", "course"] []
  a_beginnings : Addr
  d_beginnings : FuncData
  F_beginnings : Fun K "beginnings" "beginnings" s_beginnings a_beginnings d_beginnings
  g_beginnings : mg "beginnings" = some (.ref a_beginnings)
  b_beginnings : Binds K d_beginnings ["house"] []
  a_firsts : Addr
  d_firsts : FuncData
  F_firsts : Fun K "firsts" "firsts" s_firsts a_firsts d_firsts
  g_firsts : mg "firsts" = some (.ref a_firsts)
  b_firsts : Binds K d_firsts ["house"] []
  a_may_name : Addr
  d_may_name : FuncData
  F_may_name : Fun K "may_name" "may_name" s_may_name a_may_name d_may_name
  g_may_name : mg "may_name" = some (.ref a_may_name)
  b_may_name : Binds K d_may_name ["house", "standing", "server"] []
  a_turns : Addr
  d_turns : FuncData
  F_turns : Fun K "turns" "turns" s_turns a_turns d_turns
  g_turns : mg "turns" = some (.ref a_turns)
  b_turns : Binds K d_turns ["house", "heads", "hold"] []
  c_turns : Addr
  p_turns : Addr
  h_turns : d_turns.code = .ref c_turns
  a_answered : Addr
  d_answered : FuncData
  F_answered : Fun K "answered" "answered" s_answered a_answered d_answered
  g_answered : mg "answered" = some (.ref a_answered)
  b_answered : Binds K d_answered ["house", "table", "standing"] []
  c_answered : Addr
  p_answered : Addr
  h_answered : d_answered.code = .ref c_answered
  a_goes_to : Addr
  d_goes_to : FuncData
  F_goes_to : Fun K "goes_to" "goes_to" s_goes_to a_goes_to d_goes_to
  g_goes_to : mg "goes_to" = some (.ref a_goes_to)
  b_goes_to : Binds K d_goes_to ["house", "table", "standing"] []
  a_leads_of : Addr
  d_leads_of : FuncData
  F_leads_of : Fun K "leads_of" "leads_of" s_leads_of a_leads_of d_leads_of
  g_leads_of : mg "leads_of" = some (.ref a_leads_of)
  b_leads_of : Binds K d_leads_of ["house", "table"] []
  a_ways_back : Addr
  d_ways_back : FuncData
  F_ways_back : Fun K "ways_back" "ways_back" s_ways_back a_ways_back d_ways_back
  g_ways_back : mg "ways_back" = some (.ref a_ways_back)
  b_ways_back : Binds K d_ways_back ["leads"] []
  a_served_order : Addr
  d_served_order : FuncData
  F_served_order : Fun K "served_order" "served_order" s_served_order a_served_order d_served_order
  g_served_order : mg "served_order" = some (.ref a_served_order)
  b_served_order : Binds K d_served_order ["leads"] []
  a_greatest_costs : Addr
  d_greatest_costs : FuncData
  F_greatest_costs : Fun K "greatest_costs" "greatest_costs" s_greatest_costs a_greatest_costs d_greatest_costs
  g_greatest_costs : mg "greatest_costs" = some (.ref a_greatest_costs)
  b_greatest_costs : Binds K d_greatest_costs ["leads", "costs"] []
  a_moments_left : Addr
  d_moments_left : FuncData
  F_moments_left : Fun K "moments_left" "moments_left" s_moments_left a_moments_left d_moments_left
  g_moments_left : mg "moments_left" = some (.ref a_moments_left)
  b_moments_left : Binds K d_moments_left ["leads"] []
  a_greatest_at_first : Addr
  d_greatest_at_first : FuncData
  F_greatest_at_first : Fun K "greatest_at_first" "greatest_at_first" s_greatest_at_first a_greatest_at_first d_greatest_at_first
  g_greatest_at_first : mg "greatest_at_first" = some (.ref a_greatest_at_first)
  b_greatest_at_first : Binds K d_greatest_at_first ["house", "left"] []
  a_latest : Addr
  d_latest : FuncData
  F_latest : Fun K "latest" "latest" s_latest a_latest d_latest
  g_latest : mg "latest" = some (.ref a_latest)
  b_latest : Binds K d_latest ["house", "table"] []
  a_stairs : Addr
  d_stairs : FuncData
  F_stairs : Fun K "stairs" "stairs" s_stairs a_stairs d_stairs
  g_stairs : mg "stairs" = some (.ref a_stairs)
  b_stairs : Binds K d_stairs ["house", "table"] []
  a_deck : Addr
  d_deck : FuncData
  F_deck : Fun K "_law_deck" "_law_deck" s_deck a_deck d_deck
  g_deck : mg "_law_deck" = some (.ref a_deck)
  b_deck : Binds K d_deck ["_law_script"] []
  a_draw : Addr
  d_draw : FuncData
  F_draw : Fun K "_law_draw" "_law_draw" s_draw a_draw d_draw
  g_draw : mg "_law_draw" = some (.ref a_draw)
  b_draw : Binds K d_draw ["_law_deck_here", "_law_many"] []
  a_one : Addr
  d_one : FuncData
  F_one : Fun K "_law_one" "_law_one" s_one a_one d_one
  g_one : mg "_law_one" = some (.ref a_one)
  b_one : Binds K d_one ["_law_deck_here", "_law_items"] []
  a_power : Addr
  d_power : FuncData
  F_power : Fun K "_law_power" "_law_power" s_power a_power d_power
  g_power : mg "_law_power" = some (.ref a_power)
  b_power : Binds K d_power ["_law_servers", "_law_lag"] []
  a_house : Addr
  d_house : FuncData
  F_house : Fun K "_law_house" "_law_house" s_house a_house d_house
  g_house : mg "_law_house" = some (.ref a_house)
  b_house : Binds K d_house ["_law_deck_here", "_law_room"] []
  a_rest_kept : Addr
  d_rest_kept : FuncData
  F_rest_kept : Fun K "_law_rest_kept" "_law_rest_kept" s_rest_kept a_rest_kept d_rest_kept
  g_rest_kept : mg "_law_rest_kept" = some (.ref a_rest_kept)
  b_rest_kept : Binds K d_rest_kept ["_law_course", "_law_rest"] []
  a_table : Addr
  d_table : FuncData
  F_table : Fun K "_law_table" "_law_table" s_table a_table d_table
  g_table : mg "_law_table" = some (.ref a_table)
  b_table : Binds K d_table ["_law_deck_here", "_law_room"] []
  a_rows_that_fit : Addr
  d_rows_that_fit : FuncData
  F_rows_that_fit : Fun K "_law_rows_that_fit" "_law_rows_that_fit" s_rows_that_fit a_rows_that_fit d_rows_that_fit
  g_rows_that_fit : mg "_law_rows_that_fit" = some (.ref a_rows_that_fit)
  b_rows_that_fit : Binds K d_rows_that_fit ["_law_house_here"] []
  a_asked : Addr
  d_asked : FuncData
  F_asked : Fun K "_law_asked" "_law_asked" s_asked a_asked d_asked
  g_asked : mg "_law_asked" = some (.ref a_asked)
  b_asked : Binds K d_asked ["_law_house_here", "_law_table_here", "_law_asker"] []
  a_later : Addr
  d_later : FuncData
  F_later : Fun K "_law_later" "_law_later" s_later a_later d_later
  g_later : mg "_law_later" = some (.ref a_later)
  b_later : Binds K d_later ["_law_house_here", "_law_table_here", "_law_asker", "_law_name"] []
  a_hold : Addr
  d_hold : FuncData
  F_hold : Fun K "_law_hold" "_law_hold" s_hold a_hold d_hold
  g_hold : mg "_law_hold" = some (.ref a_hold)
  b_hold : Binds K d_hold ["_law_house_here", "_law_course", "_law_moment"] []
  a_l_firsts : Addr
  d_l_firsts : FuncData
  F_l_firsts : Fun K "_law_firsts" "_law_firsts" s_l_firsts a_l_firsts d_l_firsts
  g_l_firsts : mg "_law_firsts" = some (.ref a_l_firsts)
  b_l_firsts : Binds K d_l_firsts ["_law_house_here"] []
  a_on : Addr
  d_on : FuncData
  F_on : Fun K "_law_on" "_law_on" s_on a_on d_on
  g_on : mg "_law_on" = some (.ref a_on)
  b_on : Binds K d_on ["_law_house_here", "_law_heads_here", "_law_hold_here"] []
  a_said : Addr
  d_said : FuncData
  F_said : Fun K "_law_said" "_law_said" s_said a_said d_said
  g_said : mg "_law_said" = some (.ref a_said)
  b_said : Binds K d_said ["_law_heads_here", "_law_server"] []
  a_goes : Addr
  d_goes : FuncData
  F_goes : Fun K "_law_goes" "_law_goes" s_goes a_goes d_goes
  g_goes : mg "_law_goes" = some (.ref a_goes)
  b_goes : Binds K d_goes ["_law_house_here", "_law_table_here", "_law_standing"] []
  a_reached : Addr
  d_reached : FuncData
  F_reached : Fun K "_law_reached" "_law_reached" s_reached a_reached d_reached
  g_reached : mg "_law_reached" = some (.ref a_reached)
  b_reached : Binds K d_reached ["_law_house_here", "_law_table_here"] []
  a_numbers : Addr
  d_numbers : FuncData
  F_numbers : Fun K "_law_numbers" "_law_numbers" s_numbers a_numbers d_numbers
  g_numbers : mg "_law_numbers" = some (.ref a_numbers)
  b_numbers : Binds K d_numbers ["_law_house_here", "_law_table_here"] []
  a_number : Addr
  d_number : FuncData
  F_number : Fun K "_law_number" "_law_number" s_number a_number d_number
  g_number : mg "_law_number" = some (.ref a_number)
  b_number : Binds K d_number ["_law_house_here", "_law_table_here"] []
  a_NEW_ASKER : Addr
  g_NEW_ASKER : mg "NEW_ASKER" = some (.ref a_NEW_ASKER)
  q_NEW_ASKER : SqT K (fun _ => none) a_NEW_ASKER [.int (0), .int (0), .int (-1)]
  a_RESTS : Addr
  g_RESTS : mg "RESTS" = some (.ref a_RESTS)
  q_RESTS : SqT K (fun _ => none) a_RESTS [.int (1), .int (2), .int (3), .int (4), .int (5), .int (6)]
  m_abs : mg "abs" = none
  m_all : mg "all" = none
  m_bool : mg "bool" = none
  m_int : mg "int" = none
  m_isinstance : mg "isinstance" = none
  m_len : mg "len" = none
  m_list : mg "list" = none
  m_max : mg "max" = none
  m_min : mg "min" = none
  m_range : mg "range" = none
  m_repr : mg "repr" = none
  m_set : mg "set" = none
  m_sorted : mg "sorted" = none
  m_tuple : mg "tuple" = none
  m_zip : mg "zip" = none
def Txt.tabs {K : PySem.W.Frag} {mg : Str → Option Value} (T : Txt K mg) : List (Addr × Addr) := [(T.c_changes_of, T.p_changes_of), (T.c_heads_back, T.p_heads_back), (T.c_turns, T.p_turns), (T.c_answered, T.p_answered)]
/-! ### the deck of a script: a list of four, its cells a list of their own -/
/-- the deck at p, n numbers have been drawn -/
def Deck (K : PySem.W.Frag) (H : Hp) (p : Addr) (n : Nat) : Prop :=
  ∃ (l : Addr) (ns : List Int) (c r : Int), H p = some (.lst [.ref l, .int c, .int r, .int (n : Int)]) ∧ l ≠ p ∧ SqL K H l (ns.map V.int) ∧ ns.length ≤ 63 ∧ 0 ≤ c ∧ 0 ≤ r
theorem Deck.ne_new {K : PySem.W.Frag} {H : Hp} {p q : Addr} {n : Nat} (D : Deck K H p n) (h : H q = none) : q ≠ p := by
  obtain ⟨l, ns, c, r, hp, _⟩ := D
  exact (ne_of_none hp h).symm
theorem Deck.ne_tup {K : PySem.W.Frag} {H : Hp} {p t : Addr} {n : Nat} {xs : List V} (D : Deck K H p n) (h : H t = some (.tup xs)) : t ≠ p := by
  obtain ⟨l, ns, c, r, hp, _⟩ := D
  exact ne_of h hp (by intro z; cases z)
theorem Deck.put {K : PySem.W.Frag} {H : Hp} {p q : Addr} {n : Nat} {o : HO} (D : Deck K H p n) (h : H q = none) : Deck K (upd H q o) p n := by
  have nq := D.ne_new h
  obtain ⟨l, ns, c, r, hp, lp, hl, z⟩ := D
  exact ⟨l, ns, c, r, by rw [upd_ne nq.symm]; exact hp, lp, (Keep.new h).seq lp hl, z⟩
/-- an object that was new at a time when the deck stood is changed later -/
theorem Deck.write {K : PySem.W.Frag} {G H : Hp} {p q : Addr} {m n : Nat} {o : HO} (A : Deck K G p m) (h : G q = none) (k : Keep p G H) (D : Deck K H p n) : Deck K (upd H q o) p n := by
  have nq := A.ne_new h
  obtain ⟨l, ns, c, r, gp, lp, gl, g63, _⟩ := A
  obtain ⟨l', ns', c', r', hp, lp', hl, h63, hc, hr⟩ := D
  obtain ⟨z, hz⟩ := k.h l _ gp
  have e : l' = l := by
    rw [hp] at hz
    injection hz with hz
    injection hz with hz
    injection hz with hz _
    injection hz
  subst e
  have hp' : upd H q o p = some (.lst [.ref l', .int c', .int r', .int (n : Int)]) := by
    rw [upd_ne nq.symm]
    exact hp
  rcases gl with gl | gl
  · have lq : l' ≠ q := by
      rcases gl with gl | ⟨_, gl⟩
      · exact ne_of_none gl h
      · exact ne_of_none gl h
    refine ⟨l', ns', c', r', hp', lp, ?_, h63, hc, hr⟩
    rcases hl with (hl | ⟨u, hl⟩) | hl
    · exact Or.inl (Or.inl (by rw [upd_ne lq]; exact hl))
    · exact Or.inl (Or.inr ⟨u, by rw [upd_ne lq]; exact hl⟩)
    · exact Or.inr hl
  · exact ⟨l', ns, c', r', hp', lp, Or.inr gl, g63, hc, hr⟩
theorem ints_dp {K : PySem.W.Frag} {H : Hp} : ∀ ns : List Int, DpAll K H (ns.map V.int) (ns.map PyData.int)
  | [] => .nil
  | n :: ns => .cons (.int n) (ints_dp ns)
theorem ints_lay : ∀ ns : List Int, PyData.canLayAll0 (ns.map PyData.int) = true
  | [] => by simp only [List.map_nil, PyData.canLayAll0]
  | n :: ns => by simp only [List.map_cons, PyData.canLayAll0, PyData.canLay0, ints_lay ns, Bool.and_self]
theorem ints_deep : ∀ ns : List Int, PyData.depthAll (ns.map PyData.int) = 0
  | [] => by simp only [List.map_nil, PyData.depthAll]
  | n :: ns => by simp only [List.map_cons, PyData.depthAll, PyData.depth, ints_deep ns, Nat.max_self]
theorem ints_shaped (ns : List Int) : SeqAt.shaped (.list (ns.map PyData.int)) = true := by
  unfold SeqAt.shaped
  simp only [PyData.canLay0, PyData.depth, ints_lay, ints_deep, Bool.true_and, decide_eq_true_eq]
  decide
theorem ints_nil (ns : List Int) : PyData.eqv (.list (ns.map PyData.int)) (.list []) = ns.isEmpty := by
  cases ns <;> simp [PyData.eqv, PyData.eqvAll]
theorem int_at (ns : List Int) (i : Int) (h0 : 0 ≤ i) (h1 : i < (ns.length : Int)) : ∃ z, atI (ns.map V.int) i = some (.int z) := by
  obtain ⟨j, rfl⟩ : ∃ j : Nat, i = (j : Int) := ⟨i.toNat, (Int.toNat_of_nonneg h0).symm⟩
  have hj : j < ns.length := by omega
  refine ⟨ns[j], atI_nat ?_⟩
  rw [List.getElem?_map, List.getElem?_eq_getElem hj]
  rfl
theorem fmod_lo {a m : Int} (h : 0 < m) : 0 ≤ a.fmod m := Int.fmod_nonneg_of_pos _ h
theorem fmod_hi {a m : Int} (h : 0 < m) : a.fmod m < m := Int.fmod_lt_of_pos _ h
theorem fdiv_lo {a m : Int} (h : 0 ≤ a) (hm : 0 < m) : 0 ≤ a.fdiv m := by
  rw [Int.fdiv_eq_ediv_of_nonneg _ (Int.le_of_lt hm)]
  exact Int.ediv_nonneg h (Int.le_of_lt hm)
theorem rIx_of {K : PySem.W.Frag} {H : Hp} {p : Addr} {xs : List V} {i : Int} {v : V} {Q : VK} (h : SqA K H p xs) (he : atI xs i = some v) (q : Q v H) : rIx K (.ref p) (.int i) H Q := by
  rcases h with h | h
  · exact Or.inl ⟨p, xs, i, v, rfl, rfl, h, he, q⟩
  · exact Or.inr (Or.inl ⟨p, xs, i, v, rfl, rfl, h, he, q⟩)
def sp_draw (K : PySem.W.Frag) : Sp := fun vs H Q _ => ∃ (p : Addr) (m : Int) (n : Nat), vs = [.ref p, .int m] ∧ 0 < m ∧ m < 100000 ∧ Deck K H p n ∧ n < 1000000 ∧
  ∀ (r : Int) (J : Hp), 0 ≤ r → r < m → Deck K J p (n + 1) → Keep p H J → Q (.int r) J
def sp_one (K : PySem.W.Frag) : Sp := fun vs H Q _ => ∃ (p a : Addr) (xs : List V) (n : Nat), vs = [.ref p, .ref a] ∧ SqL K H a xs ∧ a ≠ p ∧ 0 < xs.length ∧ xs.length < 100000 ∧ Deck K H p n ∧ n < 1000000 ∧
  ∀ (i : Nat) (x : V) (J : Hp), xs[i]? = some x → Deck K J p (n + 1) → Keep p H J → Q x J
section
variable {P : Program} {w : World} {K : PySem.W.Frag} {mg : Str → Option Value} {base : Heap}
theorem ok_draw (T : Txt K mg) : FnOk P w K mg base CX0 1 T.a_draw T.d_draw ["_law_deck_here", "_law_many"] (sp_draw K) := by
  refine T.F_draw.ok sc_draw (fun vs H Q E h => ?_) (fun cdv A outer s H vs Q E hr h => ?_)
  · obtain ⟨p, m, n, rfl, _⟩ := h
    rfl
  · obtain ⟨p, m, n, rfl, m0, m1, ⟨l, ns, c, r, hp, lp, hl, h63, c0, r0⟩, hn, k⟩ := h
    have mne : m ≠ 0 := by omega
    have md : CDivN r m := ⟨mne, by omega⟩
    refine ⟨_, (pss_cons (ps_asg (pe_op op_add (pe_ix ix_list (pv 0) pe_int (fun _ _ => rfl)) pe_int) (pg_sub (pv 0) pe_int set_list))
      (pss_cons (ps_if (pt_cmpR op_gt (pe_ix ix_list (pv 0) pe_int (fun _ _ => rfl)) pe_int (nomark _))
        (pss_cons (ps_set (i := 2) sc_draw.nd rfl (Or.inl rfl) (pe_op op_modN (pe_callTy (T := "int") call_int1 (by rfl) T.m_int (by decide +kernel) (pa_cons (pe_ix ix_list (pv 0) pe_int (fun _ _ => rfl)) pa_nil)) (pv 1)))
      (pss_cons (ps_asg (pe_op op_fdivN (pe_ix ix_list (pv 0) pe_int (fun _ _ => rfl)) (pv 1)) (pg_sub (pv 0) pe_int set_list))
      (pss_one (ps_ret (pv 2)))))
        pss_nil)
      (pss_cons (ps_set (i := 3) sc_draw.nd rfl (Or.inl rfl) pe_int)
      (Evl.pss_cut (ps_if (pt_cmpR (op_neD hr.units) (pe_ix ix_list (pv 0) pe_int (fun _ _ => rfl)) (pe_lst pa_nil) (nomark _))
        (pss_one (ps_set (i := 3) sc_draw.nd rfl (Or.inl rfl) (pe_ix ix_list (pe_ix ix_list (pv 0) pe_int (fun _ _ => rfl)) (pe_op op_modN (pe_callTy (T := "int") call_int1 (by rfl) T.m_int (by decide +kernel) (pa_cons (pe_ix ix_list (pv 0) pe_int (fun _ _ => rfl)) pa_nil)) (pe_callB (id := "len") call_len_seq (by rfl) T.m_len (by decide +kernel) (pa_cons (pe_ix ix_list (pv 0) pe_int (fun _ _ => rfl)) pa_nil))) (fun _ _ => rfl))))
        pss_nil)
      (pss_cons (ps_asg (pe_op op_add (pe_ix ix_list (pv 0) pe_int (fun _ _ => rfl)) pe_int) (pg_sub (pv 0) pe_int set_list))
      (Evl.pss_cut (ps_if (PW.pt (pw_and (pt_cmpR op_ge (pe_callB (id := "abs") call_abs (by rfl) T.m_abs (by decide +kernel) (pa_cons (pv 3) pa_nil)) (pe_op op_pow pe_int pe_int) (nomark _)) (pw_and1 (pt_cmpR op_le (pe_ix ix_list (pv 0) pe_int (fun _ _ => rfl)) (pe_callB (id := "len") call_len_seq (by rfl) T.m_len (by decide +kernel) (pa_cons (pe_ix ix_list (pv 0) pe_int (fun _ _ => rfl)) pa_nil)) (nomark _)))))
        (pss_cons (ps_asg (pe_op op_fdivN (pe_callB (id := "abs") call_abs (by rfl) T.m_abs (by decide +kernel) (pa_cons (pv 3) pa_nil)) (pv 1)) (pg_sub (pv 0) pe_int set_list))
      (pss_one (ps_ret (pe_op op_modN (pe_callTy (T := "int") call_int1 (by rfl) T.m_int (by decide +kernel) (pa_cons (pe_callB (id := "abs") call_abs (by rfl) T.m_abs (by decide +kernel) (pa_cons (pv 3) pa_nil)) pa_nil)) (pv 1)))))
        pss_nil)
      (pss_cons (ps_set (i := 4) sc_draw.nd rfl (Or.inl rfl) (pe_op op_modN (pe_op op_pow (pe_callTy (T := "int") call_int1 (by rfl) T.m_int (by decide +kernel) (pa_cons (pe_op op_add (pe_op op_modN (pe_callTy (T := "int") call_int1 (by rfl) T.m_int (by decide +kernel) (pa_cons (pv 3) pa_nil)) pe_int) (pe_op op_mul pe_int (pe_ix ix_list (pv 0) pe_int (fun _ _ => rfl)))) pa_nil)) pe_int) pe_int))
      (pss_cons (ps_set (i := 4) sc_draw.nd rfl (Or.inl rfl) (pe_op op_modN (pe_op op_pow (pe_callTy (T := "int") call_int1 (by rfl) T.m_int (by decide +kernel) (pa_cons (pe_op op_add (pe_op op_mul (pv 4) (pe_op op_add (pe_op op_mul pe_int (pe_ix ix_list (pv 0) pe_int (fun _ _ => rfl))) pe_int)) pe_int) pa_nil)) pe_int) pe_int))
      (pss_one (ps_ret (pe_op op_modN (pe_op op_fdivN (pv 4) pe_int) (pv 1)))))))))))), ?_⟩
    -- the number of draws
    refine ⟨_, rfl, p, _, 3, _, rfl, rfl, SqL.of hp, rfl, _, _, rfl, rfl, _, rfl, p, _, 3, 3, rfl, rfl, hp, rfl, ?_⟩
    have en : ((n : Int) + 1) = ((n + 1 : Nat) : Int) := by omega
    have h1 : upd H p (.lst [.ref l, .int c, .int r, .int ((n : Int) + 1)]) p = some (.lst [.ref l, .int c, .int r, .int ((n : Int) + 1)]) := upd_same
    have K1 : Keep p H (upd H p (.lst [.ref l, .int c, .int r, .int ((n : Int) + 1)])) := Keep.put hp
    have l1 := K1.seq lp hl
    refine ⟨_, rfl, p, _, 2, _, rfl, rfl, SqL.of h1, rfl, _, _, rfl, rfl, _, rfl, ite2 (fun hpos => ?_) (fun _ => ?_)⟩
    · refine ⟨_, rfl, p, _, 2, _, rfl, rfl, SqL.of h1, rfl, .inl ⟨_, rfl, _, rfl, _, _, rfl, rfl, mne, ?_⟩⟩
      refine ⟨_, rfl, p, _, 2, _, rfl, rfl, SqL.of h1, rfl, _, rfl, _, _, rfl, rfl, md, _, rfl, p, _, 2, 2, rfl, rfl, h1, rfl, ?_⟩
      refine ⟨_, rfl, k _ _ (fmod_lo m0) (fmod_hi m0) ?_ (K1.trans (Keep.put h1))⟩
      exact ⟨l, ns, c, r.fdiv m, by rw [upd_same, ← en]; rfl, lp, (K1.trans (Keep.put h1)).seq lp hl, h63, c0, fdiv_lo r0 m0⟩
    · -- the cell: 67, or one of the script's
      let H1 := upd H p (.lst [.ref l, .int c, .int r, .int ((n : Int) + 1)])
      refine ⟨fun σ' H2 => ∃ z : Int, σ' = [some (.ref p), some (.int m), none, some (.int z), none] ∧ Same H1 H2, ?_, ?_⟩
      · refine ⟨_, rfl, p, _, 0, _, rfl, rfl, SqL.of h1, rfl, Nat.zero_le _, fun q hq => ?_⟩
        have s2 : Same H1 (upd H1 q (.lst [])) := fun b o e => by
          rw [upd_ne (ne_of_none e hq)]
          exact e
        have h2 := s2 _ _ h1
        refine ⟨.list (ns.map PyData.int), .list [], .lst (s2.seq l1) (ints_dp ns), .lst (SqL.of upd_same) .nil, ints_shaped ns, by decide, _, rfl, ?_⟩
        rw [ints_nil]
        cases ns with
        | nil => exact ⟨67, rfl, s2⟩
        | cons y ys =>
          refine iteT ?_
          have len0 : (((y :: ys).length : Nat) : Int) ≠ 0 := by rw [List.length_cons]; omega
          have lenp : (0 : Int) < (((y :: ys).length : Nat) : Int) := by rw [List.length_cons]; omega
          have e2 : (((y :: ys).map V.int).length : Int) = (((y :: ys).length : Nat) : Int) := by rw [List.length_map]
          obtain ⟨z, hz⟩ := int_at (y :: ys) (c.fmod (((y :: ys).length : Nat) : Int)) (fmod_lo lenp) (fmod_hi lenp)
          refine ⟨_, rfl, p, _, 0, _, rfl, rfl, SqL.of h2, rfl, _, rfl, p, _, 1, _, rfl, rfl, SqL.of h2, rfl, .inl ⟨_, rfl, _, rfl, p, _, 0, _, rfl, rfl, SqL.of h2, rfl, l, _, rfl, .inl (s2.seq l1), c, _, rfl, rfl, by rw [e2]; exact len0, ?_⟩⟩
          rw [e2]
          exact ⟨l, _, _, _, rfl, rfl, s2.seq l1, hz, z, rfl, s2⟩
      · rintro σ' H2 ⟨z, rfl, s2⟩
        have h2 := s2 _ _ h1
        have K2 : Keep p H H2 := K1.trans (Keep.of_same s2)
        -- one cell more has been read
        refine ⟨_, rfl, p, _, 1, _, rfl, rfl, SqL.of h2, rfl, _, _, rfl, rfl, _, rfl, p, _, 1, 1, rfl, rfl, h2, rfl, ?_⟩
        have K3 : Keep p H (upd H2 p (.lst [.ref l, .int (c + 1), .int r, .int ((n : Int) + 1)])) := K2.trans (Keep.put h2)
        have h3 : upd H2 p (.lst [.ref l, .int (c + 1), .int r, .int ((n : Int) + 1)]) p = some (.lst [.ref l, .int (c + 1), .int r, .int ((n : Int) + 1)]) := upd_same
        have l3 := K3.seq lp hl
        have D3 : Deck K (upd H2 p (.lst [.ref l, .int (c + 1), .int r, .int ((n : Int) + 1)])) p (n + 1) := ⟨l, ns, c + 1, r, by rw [h3, en], lp, l3, h63, by omega, r0⟩
        refine ⟨fun σ' H' => σ' = [some (.ref p), some (.int m), none, some (.int z), none] ∧ H' = upd H2 p (.lst [.ref l, .int (c + 1), .int r, .int ((n : Int) + 1)]), ?_, ?_⟩
        · refine ⟨_, rfl, _, rfl, 10, 18, rfl, rfl, ⟨by decide, by decide, by decide⟩, _, _, rfl, rfl, _, rfl, ?_⟩
          refine ite2 (fun _ => ?_) (fun _ => iteF ⟨rfl, rfl⟩)
          refine ⟨_, rfl, p, _, 1, _, rfl, rfl, SqL.of h3, rfl, _, rfl, p, _, 0, _, rfl, rfl, SqL.of h3, rfl, l, _, rfl, .inl l3, _, _, rfl, rfl, _, rfl, ?_⟩
          refine ite2 (fun _ => ?_) (fun _ => ⟨rfl, rfl⟩)
          have az : 0 ≤ (if z < 0 then -z else z) := by split <;> omega
          refine ⟨_, rfl, _, rfl, _, rfl, _, _, rfl, rfl, ⟨mne, by omega⟩, _, rfl, p, _, 2, 2, rfl, rfl, h3, rfl, ?_⟩
          refine ⟨_, rfl, _, rfl, .inl ⟨_, rfl, _, rfl, _, _, rfl, rfl, mne, ?_⟩⟩
          refine k _ _ (fmod_lo m0) (fmod_hi m0) ?_ (K3.trans (Keep.put h3))
          exact ⟨l, ns, c + 1, (if z < 0 then -z else z).fdiv m, by rw [upd_same, ← en]; rfl, lp, (K3.trans (Keep.put h3)).seq lp hl, h63, by omega, fdiv_lo az m0⟩
        · rintro σ' H' ⟨rfl, rfl⟩
          -- otherwise mixed
          have a0 : 0 ≤ z.fmod 2147483629 := fmod_lo (by decide)
          have a1 : z.fmod 2147483629 < 2147483629 := fmod_hi (by decide)
          refine ⟨_, rfl, .inl ⟨_, rfl, _, _, rfl, rfl, (by show (2147483629 : Int) ≠ 0; decide), _, rfl, p, _, 3, _, rfl, rfl, SqL.of h3, rfl, _, _, rfl, rfl, .inl ⟨by show -(2 ^ 64) < (67867967 : Int); decide, by show (67867967 : Int) < 2 ^ 64; decide⟩, _, _, rfl, rfl, ?_⟩⟩
          refine .inl ⟨_, rfl, _, _, rfl, rfl, ⟨by show (0 : Int) ≤ 5; decide, by show (5 : Int) ≤ 1000000; decide, by omega⟩, _, _, rfl, rfl, (by show (2147483647 : Int) ≠ 0; decide), ?_⟩
          generalize ((z.fmod 2147483629 + 67867967 * ((n : Int) + 1)) ^ (5 : Int).toNat) = big
          have b0 : 0 ≤ big.fmod 2147483647 := fmod_lo (by decide)
          have b1 : big.fmod 2147483647 < 2147483647 := fmod_hi (by decide)
          obtain ⟨mix, hm⟩ : ∃ mix, mix = big.fmod 2147483647 := ⟨_, rfl⟩
          rw [← hm] at b0 b1
          have c1 : mix * (2 * ((n : Int) + 1) + 3) ≤ 2147483647 * 3000000 := Int.mul_le_mul (by omega) (by omega) (by omega) (by decide)
          have c2 : 0 ≤ mix * (2 * ((n : Int) + 1) + 3) := Int.mul_nonneg b0 (by omega)
          have c3 : (mix * (2 * ((n : Int) + 1) + 3) + 5323).natAbs < 2 ^ 64 := by omega
          have c4 : -(2 ^ 64) < mix ∧ mix < 2 ^ 64 := ⟨by omega, by omega⟩
          rw [hm] at c3 c4
          refine ⟨_, rfl, _, rfl, p, _, 3, _, rfl, rfl, SqL.of h3, rfl, _, _, rfl, rfl, .inl ⟨by show -(2 ^ 64) < (2 : Int); decide, by show (2 : Int) < 2 ^ 64; decide⟩, _, _, rfl, rfl, _, _, rfl, rfl, .inl c4, _, _, rfl, rfl, ?_⟩
          refine .inl ⟨_, rfl, _, _, rfl, rfl, ⟨by show (0 : Int) ≤ 3; decide, by show (3 : Int) ≤ 1000000; decide, c3⟩, _, _, rfl, rfl, (by show (2147483587 : Int) ≠ 0; decide), ?_⟩
          refine ⟨_, rfl, _, _, rfl, rfl, ⟨by show (64 : Int) ≠ 0; decide, by show (64 : Int).natAbs < 1073741824; decide⟩, _, rfl, _, _, rfl, rfl, mne, ?_⟩
          exact k _ _ (fmod_lo m0) (fmod_hi m0) D3 K3
theorem ok_one (T : Txt K mg) : FnOk P w K mg base CX0 2 T.a_one T.d_one ["_law_deck_here", "_law_items"] (sp_one K) := by
  have G_draw : FnOk P w K mg base CX0 1 T.a_draw T.d_draw ["_law_deck_here", "_law_many"] (sp_draw K) := ok_draw T
  refine T.F_one.ok sc_one (fun vs H Q E h => ?_) (fun cdv A outer s H vs Q E hr h => ?_)
  · obtain ⟨p, a, xs, n, rfl, _⟩ := h
    rfl
  · obtain ⟨p, a, xs, n, rfl, hx, ap, x0, x1, D, hn, k⟩ := h
    refine ⟨_, (pss_one (ps_ret (pe_ix ix_seq (pv 1) (pe_call G_draw (hr.mono (by omega)) (by rfl) T.g_draw T.F_draw.kp T.b_draw .nil pass0 (pa_cons (pv 0) (pa_cons (pe_callB (id := "len") call_len_seq (by rfl) T.m_len (by decide +kernel) (pa_cons (pv 1) pa_nil)) pa_nil))) (fun _ _ => rfl)))), ?_⟩
    refine ⟨_, rfl, _, rfl, _, rfl, a, xs, rfl, .inl hx, p, (xs.length : Int), n, rfl, by omega, by omega, D, hn, fun r J r0 r1 DJ KJ => ?_⟩
    obtain ⟨i, rfl⟩ : ∃ i : Nat, r = (i : Int) := ⟨r.toNat, (Int.toNat_of_nonneg r0).symm⟩
    have hi : i < xs.length := by omega
    refine rIx_of (.inl (KJ.seq ap hx)) (atI_nat (List.getElem?_eq_getElem hi)) ?_
    exact k i _ J (List.getElem?_eq_getElem hi) DJ KJ
end

/-! ### the deck made -/
theorem same_new {q : Addr} {H : Hp} {o : HO} (h : H q = none) : Same H (upd H q o) := fun b u e => by
  rw [upd_ne (ne_of_none e h)]
  exact e
theorem Deck.of_same {K : PySem.W.Frag} {H J : Hp} {p : Addr} {n : Nat} (D : Deck K H p n) (e : Same H J) : Deck K J p n := by
  obtain ⟨l, ns, c, r, hp, lp, hl, z⟩ := D
  exact ⟨l, ns, c, r, e _ _ hp, lp, e.seq hl, z⟩
theorem Keep.free {p q : Addr} {H J : Hp} (k : Keep p H J) (n : q ≠ p) (h : J q = none) : H q = none := by
  cases e : H q with
  | none => rfl
  | some o =>
    cases o with
    | tbl x =>
      obtain ⟨x', e', _⟩ := k.t q x e
      rw [e'] at h
      cases h
    | _ =>
      rw [k.at n e] at h
      cases h
def sp_deck (K : PySem.W.Frag) : Sp := fun vs H Q _ => ∃ (a : Addr) (ns : List Int), vs = [.ref a] ∧ SqL K H a (ns.map V.int) ∧ ns.length ≤ 63 ∧
  ∀ (p : Addr) (J : Hp), Deck K J p 0 → Same H J → H p = none → Q (.ref p) J
theorem cut63 (xs : List V) (h : xs.length ≤ 63) : cutV xs none (some 63) = xs := by
  unfold cutV
  rw [HT.sIx_none, show HT.sIx xs.length xs.length (some 63) = min 63 xs.length from HT.sIx_nat xs.length xs.length 63]
  rw [List.drop_zero, Nat.sub_zero, List.take_of_length_le (by omega)]
section
variable {P : Program} {w : World} {K : PySem.W.Frag} {mg : Str → Option Value} {base : Heap}
theorem ok_deck (T : Txt K mg) : FnOk P w K mg base CX0 1 T.a_deck T.d_deck ["_law_script"] (sp_deck K) := by
  refine T.F_deck.ok sc_deck (fun vs H Q E h => ?_) (fun cdv A outer s H vs Q E hr h => ?_)
  · obtain ⟨a, ns, rfl, _⟩ := h
    rfl
  · obtain ⟨a, ns, rfl, hl, h63, k⟩ := h
    refine ⟨_, (pss_one (ps_ret (pe_lst (pa_cons (pe_callTy (T := "list") call_list_of (by rfl) T.m_list (by decide +kernel) (pa_cons (pe_slice sl_list (pv 0) po_none (po_some pe_int)) pa_nil)) (pa_cons pe_int (pa_cons pe_int (pa_cons pe_int pa_nil))))))), ?_⟩
    refine ⟨_, rfl, 63, rfl, a, _, rfl, hl, fun c hc => ?_⟩
    have s1 : Same H (upd H c (.lst (cutV (ns.map V.int) none (some 63)))) := same_new hc
    refine ⟨c, _, rfl, .inl (SqL.of upd_same), fun l hl' => ?_⟩
    refine ⟨by show 4 ≤ sizeLine; decide, fun p hp => ?_⟩
    have s2 := s1.trans (same_new (o := .lst (cutV (ns.map V.int) none (some 63))) hl')
    have lp : l ≠ p := fun e => by
      rw [← e, upd_same] at hp
      cases hp
    refine k p _ ⟨l, ns, 0, 0, upd_same, lp, SqL.of ?_, h63, by decide, by decide⟩ (s2.trans (same_new hp)) (s2.free hp)
    rw [upd_ne lp, upd_same, cut63 _ (by rw [List.length_map]; exact h63)]
end

/-! ### powers, houses drawn -/
def HouseOf (room s r g : Int) : Prop := 2 ≤ s ∧ s ≤ 4 ∧ 1 ≤ r ∧ r ≤ 6 ∧ 0 ≤ g ∧ g ≤ 3 ∧ s ^ (g + 1).toNat ≤ room
def sp_power : Sp := fun vs H Q _ => ∃ (s g : Int), vs = [.int s, .int g] ∧ 0 ≤ s ∧ s ≤ 100 ∧ -1 ≤ g ∧ g ≤ 100 ∧ Q (.int (s ^ (g + 1).toNat)) H
def sp_house (K : PySem.W.Frag) : Sp := fun vs H Q _ => ∃ (p : Addr) (room : Int) (n : Nat), vs = [.ref p, .int room] ∧ 4 ≤ room ∧ Deck K H p n ∧ n < 900000 ∧
  ∀ (s r g : Int) (t : Addr) (J : Hp), HouseOf room s r g → J t = some (.tup [.int s, .int r, .int g]) → H t = none → Deck K J p (n + 4) → Keep p H J → Q (.ref t) J
section
variable {P : Program} {w : World} {K : PySem.W.Frag} {mg : Str → Option Value} {base : Heap}
theorem ok_power (T : Txt K mg) : FnOk P w K mg base CX0 1 T.a_power T.d_power ["_law_servers", "_law_lag"] sp_power := by
  refine T.F_power.ok sc_power (fun vs H Q E h => ?_) (fun cdv A outer s H vs Q E hr h => ?_)
  · obtain ⟨s, g, rfl, _⟩ := h
    rfl
  · obtain ⟨z, g, rfl, s0, s1, g0, g1, k⟩ := h
    refine ⟨_, (pss_cons (ps_set (i := 2) sc_power.nd rfl (Or.inl rfl) pe_int)
      (pss_cons (ps_for PassesOwn.never rfl (pi_range1 (by rfl) T.m_range (pa_cons (pe_op op_add (pv 1) pe_int) pa_nil)) (pg_name (i := 3) sc_power.nd rfl (Or.inl rfl))
        (pss_one (ps_set (i := 2) sc_power.nd rfl (Or.inl rfl) (pe_op op_mul (pv 2) (pv 0)))))
      (pss_one (ps_ret (pv 2))))), ?_⟩
    refine ⟨_, rfl, _, _, rfl, rfl, _, rfl, by omega, by omega, for_range (lo := 0) (n := (g + 1).toNat) (fun i σ H' => H' = H ∧ ∃ y, σ = [some (.int z), some (.int g), some (.int (z ^ i)), y]) ⟨rfl, none, by rw [Int.pow_zero]; rfl⟩ ?_ ?_⟩
    · rintro i σ H' hi ⟨rfl, y, rfl⟩
      refine ⟨_, rfl, _, rfl, _, _, rfl, rfl, .inr ⟨by omega, by omega⟩, rfl, some (.int (0 + (i : Int))), ?_⟩
      rw [Int.pow_succ]
      rfl
    · rintro σ H' ⟨rfl, y, rfl⟩
      exact ⟨_, rfl, k⟩
theorem ok_house (T : Txt K mg) : FnOk P w K mg base CX0 3 T.a_house T.d_house ["_law_deck_here", "_law_room"] (sp_house K) := by
  have G_draw : FnOk P w K mg base CX0 1 T.a_draw T.d_draw ["_law_deck_here", "_law_many"] (sp_draw K) := ok_draw T
  have G_one : FnOk P w K mg base CX0 2 T.a_one T.d_one ["_law_deck_here", "_law_items"] (sp_one K) := ok_one T
  have G_power : FnOk P w K mg base CX0 1 T.a_power T.d_power ["_law_servers", "_law_lag"] sp_power := ok_power T
  refine T.F_house.ok sc_house (fun vs H Q E h => ?_) (fun cdv A outer s H vs Q E hr h => ?_)
  · obtain ⟨p, room, n, rfl, _⟩ := h
    rfl
  · obtain ⟨p, room, n, rfl, r4, D, hn, k⟩ := h
    refine ⟨_, (pss_cons (ps_set (i := 2) sc_house.nd rfl (Or.inr rfl) (pe_call G_one (hr.mono (by omega)) (by rfl) T.g_one T.F_one.kp T.b_one .nil pass0 (pa_cons (pv 0) (pa_cons (pe_lst (pa_cons pe_int (pa_cons pe_int (pa_cons pe_int (pa_cons pe_int (pa_cons pe_int pa_nil)))))) pa_nil))))
      (pss_cons (ps_setLc (i := 3) (own := [("_law_lag", 4)]) (g := gName 4) (by rfl) sc_house.nd rfl rfl (sw_true rfl rfl rfl (by decide +kernel)) (pi_range1 (by rfl) T.m_range (pa_cons pe_int pa_nil)) (blkOk_by (own := [("_law_lag", 4)]) (N := ["_law_deck_here", "_law_room", "_law_servers", "_law_fits", "_law_lag"]) (sc := defScope s_house) (by decide +kernel)) (fun _ _ _ _ _ => (pg_name (i := 4) sc_house.nd rfl (Or.inl rfl))) (fun _ _ _ _ _ => (pts_one (pt_cmpR op_le (pe_call G_power (hr.mono (by omega)) (by rfl) T.g_power T.F_power.kp T.b_power .nil pass0 (pa_cons (pv 2) (pa_cons (pv 4) pa_nil))) (pv 1) (nomark _)))) (fun _ _ _ _ _ => (pv 4)))
      (pss_cons (ps_set (i := 4) sc_house.nd rfl (Or.inl rfl) (pe_call G_one (hr.mono (by omega)) (by rfl) T.g_one T.F_one.kp T.b_one .nil pass0 (pa_cons (pv 0) (pa_cons (pv 3) pa_nil))))
      (pss_one (ps_ret (pe_tup (pa_cons (pv 2) (pa_cons (pe_call G_one (hr.mono (by omega)) (by rfl) T.g_one T.F_one.kp T.b_one .nil pass0 (pa_cons (pv 0) (pa_cons (pe_lst (pa_cons pe_int (pa_cons pe_int (pa_cons pe_int (pa_cons pe_int (pa_cons pe_int (pa_cons (pe_op op_add pe_int (pe_call G_draw (hr.mono (by omega)) (by rfl) T.g_draw T.F_draw.kp T.b_draw .nil pass0 (pa_cons (pv 0) (pa_cons pe_int pa_nil)))) pa_nil))))))) pa_nil))) (pa_cons (pv 4) pa_nil))))))))), ?_⟩
    -- servers
    refine ⟨_, rfl, by show 5 ≤ sizeLine; decide, fun l hl => ?_⟩
    refine ⟨p, l, _, n, rfl, SqL.of upd_same, D.ne_new hl, by show 0 < 5; decide, by show 5 < 100000; decide, D.put hl, by omega, fun i x J hx DJ KJ => ?_⟩
    obtain ⟨z, rfl, z2, z4⟩ : ∃ z : Int, x = .int z ∧ 2 ≤ z ∧ z ≤ 4 := by
      have m := List.mem_of_getElem? hx
      simp only [List.mem_cons, List.not_mem_nil, or_false] at m
      rcases m with m | m | m | m | m <;> exact ⟨_, m, by decide, by decide⟩
    have K1 : Keep p H J := (Keep.new hl).trans KJ
    -- the lags that fit
    refine ⟨4, rfl, by show -(2 ^ 62) ≤ (4 : Int); decide, by show (4 : Int) < 2 ^ 62; decide, fun F hF => ?_⟩
    refine lc_range (lo := 0) (n := 4) (fun i H' => ∃ acc : List Int, H' = upd J F (.lst (acc.map V.int)) ∧ acc.length ≤ i ∧ (0 < i → acc ≠ []) ∧ ∀ y ∈ acc, 0 ≤ y ∧ y ≤ 3 ∧ z ^ (y + 1).toNat ≤ room)
      ⟨[], rfl, Nat.le_refl _, fun q => absurd q (by decide), fun y q => (List.not_mem_nil q).elim⟩ ?_ ?_
    · rintro i H' hi ⟨acc, rfl, al, an, ay⟩
      refine ⟨rfl, ?_⟩
      refine ⟨_, rfl, _, rfl, z, 0 + (i : Int), rfl, by omega, by omega, by omega, by omega, _, rfl, _, _, rfl, rfl, _, rfl, ?_⟩
      refine ite2 (fun e => ?_) (fun e => ?_)
      · have le := of_decide_eq_true e
        refine ⟨_, rfl, acc.map V.int, upd_same, small1000 (by rw [List.length_map]; omega), acc ++ [0 + (i : Int)], ?_, by rw [List.length_append, List.length_singleton]; omega, fun _ q => ?_, ?_⟩
        · rw [upd_upd, List.map_append]
          rfl
        · exact absurd (congrArg List.length q) (by rw [List.length_append, List.length_singleton, List.length_nil]; omega)
        · intro y hy
          rcases List.mem_append.mp hy with q | q
          · exact ay y q
          · rw [List.mem_singleton] at q
            rw [q]
            exact ⟨by omega, by omega, le⟩
      · refine ⟨acc, rfl, by omega, fun _ => ?_, ay⟩
        cases i with
        | zero =>
          refine absurd ?_ e
          refine decide_eq_true ?_
          have : z ^ (0 + ((0 : Nat) : Int) + 1).toNat = z := by
            show z ^ 1 = z
            rw [Int.pow_succ, Int.pow_zero, Int.one_mul]
          rw [this]
          omega
        | succ i => exact an (Nat.succ_pos i)
    · rintro H' ⟨acc, rfl, al, an, ay⟩
      have DF := DJ.put (o := .lst (acc.map V.int)) hF
      have K2 : Keep p H (upd J F (.lst (acc.map V.int))) := K1.trans (Keep.new hF)
      have a0 : 0 < acc.length := by
        cases acc with
        | nil => exact absurd rfl (an (by decide))
        | cons _ _ => exact Nat.succ_pos _
      -- the lag
      refine ⟨_, rfl, _, rfl, p, F, _, n + 1, rfl, SqL.of upd_same, DJ.ne_new hF, by rw [List.length_map]; exact a0, by rw [List.length_map]; omega, DF, by omega, fun j x J2 hx2 DJ2 KJ2 => ?_⟩
      obtain ⟨g, rfl, g0, g3, gr⟩ : ∃ g : Int, x = .int g ∧ 0 ≤ g ∧ g ≤ 3 ∧ z ^ (g + 1).toNat ≤ room := by
        have m := List.mem_of_getElem? hx2
        obtain ⟨y, hy, rfl⟩ := List.mem_map.mp m
        exact ⟨y, rfl, ay y hy⟩
      have K3 := K2.trans KJ2
      -- the rest
      refine ⟨_, rfl, _, rfl, _, rfl, p, 6, n + 2, rfl, by decide, by decide, DJ2, by omega, fun r J3 r0 r1 DJ3 KJ3 => ?_⟩
      have K4 := K3.trans KJ3
      refine ⟨_, _, rfl, rfl, by show 6 ≤ sizeLine; decide, fun l3 hl3 => ?_⟩
      refine ⟨p, l3, _, n + 3, rfl, SqL.of upd_same, DJ3.ne_new hl3, by show 0 < 6; decide, by show 6 < 100000; decide, DJ3.put hl3, by omega, fun j3 x3 J4 hx3 DJ4 KJ4 => ?_⟩
      obtain ⟨y, rfl, y1, y6⟩ : ∃ y : Int, x3 = .int y ∧ 1 ≤ y ∧ y ≤ 6 := by
        have m := List.mem_of_getElem? hx3
        simp only [List.mem_cons, List.not_mem_nil, or_false] at m
        rcases m with m | m | m | m | m | m
        · exact ⟨_, m, by decide, by decide⟩
        · exact ⟨_, m, by decide, by decide⟩
        · exact ⟨_, m, by decide, by decide⟩
        · exact ⟨_, m, by decide, by decide⟩
        · exact ⟨_, m, by decide, by decide⟩
        · exact ⟨_, m, by omega, by omega⟩
      have K5 : Keep p H J4 := (K4.trans (Keep.new hl3)).trans KJ4
      refine ⟨_, rfl, by show 3 ≤ sizeLine; decide, fun t ht => ?_⟩
      exact k z y g t _ ⟨z2, z4, y1, y6, g0, g3, gr⟩ upd_same (K5.free (DJ4.ne_new ht) ht) (DJ4.put ht) (K5.trans (Keep.new ht))
end

/-! ### data behind the deck -/
/-- data behind the deck -/
abbrev Dt (K : PySem.W.Frag) (p : Addr) (H : Hp) (v : V) (d : PyData) : Prop := Dp K (off p H) v d
theorem Keep.dt {K : PySem.W.Frag} {p : Addr} {H J : Hp} {v : V} {d : PyData} (k : Keep p H J) (h : Dt K p H v d) : Dt K p J v d := dpSame k.s d v h
theorem Keep.all {K : PySem.W.Frag} {p : Addr} {H J : Hp} {vs : List V} {ds : List PyData} (k : Keep p H J) (h : DpAll K (off p H) vs ds) : DpAll K (off p J) vs ds := dpAllSame k.s ds vs h
theorem dt_tup {K : PySem.W.Frag} {p t : Addr} {H : Hp} {vs : List V} {ds : List PyData} (tp : t ≠ p) (ht : H t = none) (h : DpAll K (off p H) vs ds) : Dt K p (upd H t (.tup vs)) (.ref t) (.tuple ds) :=
  .tup (SqT.of (off_at tp upd_same)) (Keep.all (Keep.new ht) h)
theorem dt_lst {K : PySem.W.Frag} {p t : Addr} {H : Hp} {vs : List V} {ds : List PyData} (tp : t ≠ p) (ht : H t = none) (h : DpAll K (off p H) vs ds) : Dt K p (upd H t (.lst vs)) (.ref t) (.list ds) :=
  .lst (SqL.of (off_at tp upd_same)) (Keep.all (Keep.new ht) h)
theorem dpAll_snoc {K : PySem.W.Frag} {H : Hp} {vs : List V} {ds : List PyData} {v : V} {d : PyData} (a : DpAll K H vs ds) (b : Dp K H v d) : DpAll K H (vs ++ [v]) (ds ++ [d]) := dpAll_append a (.cons b .nil)
theorem niceAll_append {e : Nat} (a b : List PyData) : niceAll e (a ++ b) = (niceAll e a && niceAll e b) := by
  induction a with
  | nil => simp [niceAll]
  | cons x a ih => simp [niceAll, ih, Bool.and_assoc]
theorem niceAll_reverse {e : Nat} {a : List PyData} (h : niceAll e a = true) : niceAll e a.reverse = true :=
  niceAll_iff.mpr fun d hd => niceAll_iff.mp h d (List.mem_reverse.mp hd)
theorem depthAll_reverse (a : List PyData) : PyData.depthAll a.reverse = PyData.depthAll a :=
  Nat.le_antisymm (depthAll_le.mpr fun d hd => depthAll_le.mp (Nat.le_refl _) d (List.mem_reverse.mp hd)) (depthAll_le.mpr fun d hd => depthAll_le.mp (Nat.le_refl _) d (List.mem_reverse.mpr hd))
theorem split_at {α : Type} {l : List α} {j : Nat} {x : α} (h : l[j]? = some x) : l = l.take j ++ x :: l.drop (j + 1) := by
  have hj := (List.getElem?_eq_some_iff.mp h).1
  have e := (List.getElem?_eq_some_iff.mp h).2
  rw [← e, List.getElem_cons_drop, List.take_append_drop]
theorem cut_to (xs : List V) (j : Nat) (h : j ≤ xs.length) : cutV xs none (some (j : Int)) = xs.take j := by
  unfold cutV
  rw [HT.sIx_none, HT.sIx_nat, List.drop_zero, Nat.sub_zero, Nat.min_eq_left h]
theorem cut_from (xs : List V) (j : Nat) (h : j ≤ xs.length) : cutV xs (some (j : Int)) none = xs.drop j := by
  unfold cutV
  rw [HT.sIx_none, HT.sIx_nat, Nat.min_eq_left h, List.take_of_length_le (by rw [List.length_drop]; exact Nat.le_refl _)]
theorem isA_tup {d : PyData} (h : isA "tuple" d = true) : ∃ ds, d = .tuple ds := by
  cases d <;> first | exact ⟨_, rfl⟩ | (exfalso; revert h; simp [isA, isS, kindD])
theorem isA_int {d : PyData} (h : isA "int" d = true) (hb : isA "bool" d = false) : ∃ i, d = .int i := by
  cases d <;> first | exact ⟨_, rfl⟩ | (exfalso; revert h hb; simp [isA, isS, kindD])
theorem Dt.get {K : PySem.W.Frag} {p : Addr} {H : Hp} {v : V} {ds : List PyData} (h : Dt K p H v (.tuple ds)) : ∃ (a : Addr) (xs : List V), v = .ref a ∧ SqT K H a xs ∧ DpAll K (off p H) xs ds := by
  cases h with | tup h1 h2 => exact ⟨_, _, rfl, sameT off_in h1, h2⟩
theorem dt_of {K : PySem.W.Frag} {p t : Addr} {H : Hp} {n : Nat} {xs : List V} {ds : List PyData} (D : Deck K H p n) (h : SqT K H t xs) (a : DpAll K (off p H) xs ds) : Dt K p H (.ref t) (.tuple ds) := by
  obtain ⟨_, _, _, _, hp, _⟩ := D
  exact .tup (tup_off hp h) a
theorem paired_snoc {α β : Type} {F : α → β → Prop} : ∀ {as : List α} {bs : List β} {a : α} {b : β}, Paired F as bs → F a b → Paired F (as ++ [a]) (bs ++ [b])
  | _, _, _, _, .nil, h => .cons h .nil
  | _, _, _, _, .cons r t, h => .cons r (paired_snoc t h)
/-- on the way through a list of data: what has been made so far -/
structure Acc (K : PySem.W.Frag) (p : Addr) (n : Nat) (H0 H : Hp) (vs : List V) (ds : List PyData) : Prop where
  dk : Deck K H p n
  al : DpAll K (off p H) vs ds
  kp : Keep p H0 H
section
variable {K : PySem.W.Frag} {p t : Addr} {n : Nat} {vs us : List V} {ds es : List PyData} {H0 H J : Hp}
theorem Acc.same (a : Acc K p n H0 H vs ds) (s : Same H J) : Acc K p n H0 J vs ds := ⟨a.dk.of_same s, Keep.all (Keep.of_same s) a.al, a.kp.trans (Keep.of_same s)⟩
theorem Acc.new {o : HO} (a : Acc K p n H0 H vs ds) (h : H t = none) : Acc K p n H0 (upd H t o) vs ds := a.same (same_new h)
theorem Acc.add {v : V} {d : PyData} (a : Acc K p n H0 H vs ds) (b : Dt K p H v d) : Acc K p n H0 H (vs ++ [v]) (ds ++ [d]) := ⟨a.dk, dpAll_snoc a.al b, a.kp⟩
theorem Acc.keep {m : Nat} (a : Acc K p n H0 H vs ds) (k : Keep p H J) (D : Deck K J p m) : Acc K p m H0 J vs ds := ⟨D, k.all a.al, a.kp.trans k⟩
end
theorem dpAll_flat {K : PySem.W.Frag} {H : Hp} {vs : List V} {ds : List PyData} (h : DpAll K H vs ds) : ∀ n : Nat, DpAll K H (List.replicate n vs).flatten (List.replicate n ds).flatten
  | 0 => .nil
  | n + 1 => by
    rw [List.replicate_succ, List.replicate_succ, List.flatten_cons, List.flatten_cons]
    exact dpAll_append h (dpAll_flat h n)
theorem wt_flat (ds : List PyData) : ∀ n : Nat, wtAll (List.replicate n ds).flatten = n * wtAll ds
  | 0 => by simp [wtAll]
  | n + 1 => by
    rw [List.replicate_succ, List.flatten_cons, wtAll_append, wt_flat ds n, Nat.succ_mul]
    omega
theorem mem_flat {ds : List PyData} {d : PyData} : ∀ {n : Nat}, d ∈ (List.replicate n ds).flatten → d ∈ ds := fun {n} h => by
  obtain ⟨l, hl, hd⟩ := List.mem_flatten.mp h
  rw [List.eq_of_mem_replicate hl] at hd
  exact hd
theorem wt_take (ds : List PyData) (j : Nat) : wtAll (ds.take j) ≤ wtAll ds := by
  have := congrArg wtAll (List.take_append_drop j ds)
  rw [wtAll_append] at this
  omega
theorem wt_drop (ds : List PyData) (j : Nat) : wtAll (ds.drop j) ≤ wtAll ds := by
  have := congrArg wtAll (List.take_append_drop j ds)
  rw [wtAll_append] at this
  omega
/-- tuples and lists of small items -/
theorem tiny_tup {e W m : Nat} {ds : List PyData} (h : ∀ d ∈ ds, nice e d = true ∧ d.depth ≤ m) (hw : wtAll ds < W) : Tiny e W (m + 1) (.tuple ds) ∧ Tiny e W (m + 1) (.list ds) := by
  have a : niceAll e ds = true := niceAll_iff.mpr fun d hd => (h d hd).1
  have b : PyData.depthAll ds ≤ m := depthAll_le.mpr fun d hd => (h d hd).2
  refine ⟨⟨by simpa only [nice] using a, by simp only [wt]; omega, by simp only [PyData.depth]; omega⟩, ⟨by simpa only [nice] using a, by simp only [wt]; omega, by simp only [PyData.depth]; omega⟩⟩

/-! ### tables drawn -/
abbrev Row : Type := Str × Int × Int
def rowD (r : Row) : PyData := .tuple [.str r.1, .int r.2.1, .int r.2.2]
def tableD (rs : List Row) : PyData := .tuple (rs.map rowD)
def deedOk (x : Str) : Prop := x = "named" ∨ x = "next" ∨ x = "wait"
def RowOf (m : Int) (r : Row) : Prop := deedOk r.1 ∧ 0 ≤ r.2.1 ∧ r.2.1 < m ∧ 0 ≤ r.2.2 ∧ r.2.2 < m
def TableOf (room : Int) (rs : List Row) : Prop := 1 ≤ rs.length ∧ (rs.length : Int) ≤ room ∧ ∀ r ∈ rs, RowOf (rs.length : Int) r
theorem dp_row {K : PySem.W.Frag} {H : Hp} {v : V} {r : Row} (h : Dp K H v (rowD r)) : ∃ a, v = .ref a ∧ SqT K H a [.str r.1, .int r.2.1, .int r.2.2] := by
  cases h with
  | tup h1 h2 =>
    cases h2 with
    | cons a h2 =>
    cases h2 with
    | cons b h2 =>
    cases h2 with
    | cons c h2 =>
    cases h2
    cases a
    cases b
    cases c
    exact ⟨_, rfl, h1⟩
theorem dp_table {K : PySem.W.Frag} {H : Hp} {v : V} {rs : List Row} (h : Dp K H v (tableD rs)) : ∃ (a : Addr) (xs : List V), v = .ref a ∧ SqT K H a xs ∧ xs.length = rs.length ∧
    ∀ (i : Nat) (r : Row), rs[i]? = some r → ∃ b, xs[i]? = some (.ref b) ∧ SqT K H b [.str r.1, .int r.2.1, .int r.2.2] := by
  cases h with
  | tup h1 h2 =>
    rename_i a xs
    have hl := dpAll_len h2
    rw [List.length_map] at hl
    refine ⟨a, xs, rfl, h1, hl, fun i r hr => ?_⟩
    have hi : i < xs.length := by
      rw [hl]
      exact (List.getElem?_eq_some_iff.mp hr).1
    obtain ⟨d, e1, e2⟩ := dpAll_get h2 (List.getElem?_eq_getElem hi)
    rw [List.getElem?_map, hr] at e1
    cases e1
    obtain ⟨b, eb, sb⟩ := dp_row e2
    exact ⟨b, by rw [List.getElem?_eq_getElem hi, eb], sb⟩
theorem dp_three {K : PySem.W.Frag} {H : Hp} {v : V} {x y z : Int} (h : Dp K H v (.tuple [.int x, .int y, .int z])) : ∃ a, v = .ref a ∧ SqT K H a [.int x, .int y, .int z] := by
  cases h with
  | tup h1 h2 =>
    cases h2 with
    | cons a h2 =>
    cases h2 with
    | cons b h2 =>
    cases h2 with
    | cons c h2 =>
    cases h2
    cases a
    cases b
    cases c
    exact ⟨_, rfl, h1⟩
theorem dp_three_at {K : PySem.W.Frag} {H : Hp} {a : Addr} {x y z : Int} (h : Dp K H (.ref a) (.tuple [.int x, .int y, .int z])) : SqT K H a [.int x, .int y, .int z] := by
  obtain ⟨b, e, s⟩ := dp_three h
  cases e
  exact s
theorem row_nice {m : Int} {r : Row} {e : Nat} (he : 10 ≤ e) (hm : m ≤ 1000) (h : RowOf m r) : nice e (rowD r) = true := by
  obtain ⟨hd, a0, a1, b0, b1⟩ := h
  have p : 2 ^ 10 ≤ 2 ^ e := Nat.pow_le_pow_right (by decide) he
  have h1 : r.2.1.natAbs < 2 ^ e := by omega
  have h2 : r.2.2.natAbs < 2 ^ e := by omega
  have h3 : nice e (.str r.1) = true := by rcases hd with h | h | h <;> (rw [h]; simp only [nice]; decide +kernel)
  simp only [rowD, nice, niceAll, Bool.and_eq_true, decide_eq_true_eq]
  refine ⟨by simpa only [nice, Bool.and_eq_true, decide_eq_true_eq] using h3, h1, h2, trivial⟩
theorem row_wt (r : Row) : wt (rowD r) = 4 := by simp only [rowD, wt, wtAll]
theorem row_depth (r : Row) : (rowD r).depth = 1 := by simp only [rowD, PyData.depth, PyData.depthAll]; rfl
theorem table_wt : ∀ rs : List Row, wtAll (rs.map rowD) = 4 * rs.length
  | [] => rfl
  | r :: rs => by
    rw [List.map_cons, List.length_cons]
    simp only [wtAll, row_wt, table_wt rs]
    omega
theorem table_tiny {room : Int} {rs : List Row} (hr : room ≤ 100) (h : TableOf room rs) : Tiny 140 (4 * rs.length + 1) 2 (tableD rs) := by
  obtain ⟨h1, h2, h3⟩ := h
  refine ⟨?_, ?_, ?_⟩
  · simp only [tableD, nice]
    refine niceAll_iff.mpr fun d hd => ?_
    obtain ⟨r, hr', rfl⟩ := List.mem_map.mp hd
    exact row_nice (by decide) (by omega) (h3 r hr')
  · simp only [tableD, wt, table_wt]
    omega
  · simp only [tableD, PyData.depth]
    have : PyData.depthAll (rs.map rowD) ≤ 1 := depthAll_le.mpr fun d hd => by
      obtain ⟨r, _, rfl⟩ := List.mem_map.mp hd
      rw [row_depth]
      exact Nat.le_refl _
    omega
def RowAt (H : Hp) (p F : Addr) (v : V) (r : Row) : Prop := ∃ b : Addr, v = .ref b ∧ b ≠ p ∧ b ≠ F ∧ H b = some (.tup [.str r.1, .int r.2.1, .int r.2.2])
theorem rows_dp {K : PySem.W.Frag} {H : Hp} {p F : Addr} : ∀ {vs : List V} {rs : List Row}, Paired (RowAt H p F) vs rs → DpAll K (off p H) vs (rs.map rowD)
  | _, _, .nil => .nil
  | _, _, .cons ⟨b, e, b1, _, hb⟩ t => by
    subst e
    exact .cons (.tup (SqT.of (off_at b1 hb)) (.cons (.str _) (.cons (.int _) (.cons (.int _) .nil)))) (rows_dp t)
def sp_table (K : PySem.W.Frag) : Sp := fun vs H Q _ => ∃ (p : Addr) (room : Int) (n : Nat), vs = [.ref p, .int room] ∧ 1 ≤ room ∧ room ≤ 100 ∧ Deck K H p n ∧ n < 800000 ∧
  ∀ (rs : List Row) (v : V) (J : Hp) (n' : Nat), TableOf room rs → Dt K p J v (tableD rs) → n' ≤ n + 1 + 3 * rs.length → Deck K J p n' → Keep p H J → Q v J
section
variable {P : Program} {w : World} {K : PySem.W.Frag} {mg : Str → Option Value} {base : Heap}
theorem ok_table (T : Txt K mg) : FnOk P w K mg base CX0 3 T.a_table T.d_table ["_law_deck_here", "_law_room"] (sp_table K) := by
  have G_draw : FnOk P w K mg base CX0 1 T.a_draw T.d_draw ["_law_deck_here", "_law_many"] (sp_draw K) := ok_draw T
  have G_one : FnOk P w K mg base CX0 2 T.a_one T.d_one ["_law_deck_here", "_law_items"] (sp_one K) := ok_one T
  refine T.F_table.ok sc_table (fun vs H Q E h => ?_) (fun cdv A outer s H vs Q E hr h => ?_)
  · obtain ⟨p, room, n, rfl, _⟩ := h
    rfl
  · obtain ⟨p, room, n, rfl, r1, r2, D, hn, k⟩ := h
    refine ⟨_, (pss_cons (ps_set (i := 2) sc_table.nd rfl (Or.inl rfl) (pe_op op_add pe_int (pe_call G_draw (hr.mono (by omega)) (by rfl) T.g_draw T.F_draw.kp T.b_draw .nil pass0 (pa_cons (pv 0) (pa_cons (pv 1) pa_nil)))))
      (pss_cons (ps_set (i := 3) sc_table.nd rfl (Or.inl rfl) (pe_lst pa_nil))
      (pss_cons (ps_for PassesOwn.never rfl (pi_range1 (by rfl) T.m_range (pa_cons (pv 2) pa_nil)) (pg_name (i := 4) sc_table.nd rfl (Or.inl rfl))
        (pss_cons (ps_set (i := 5) sc_table.nd rfl (Or.inl rfl) (pe_call G_one (hr.mono (by omega)) (by rfl) T.g_one T.F_one.kp T.b_one .nil pass0 (pa_cons (pv 0) (pa_cons (pe_lst (pa_cons pe_str (pa_cons pe_str (pa_cons pe_str (pa_cons pe_str (pa_cons pe_str pa_nil)))))) pa_nil))))
      (pss_one (ps_expr (pe_bm PySem.F.plainAttrs_list PySem.F.slot_list_append PySem.F.type_list_append mt_append (pv 3) (pa_cons (pe_tup (pa_cons (pv 5) (pa_cons (pe_call G_draw (hr.mono (by omega)) (by rfl) T.g_draw T.F_draw.kp T.b_draw .nil pass0 (pa_cons (pv 0) (pa_cons (pv 2) pa_nil))) (pa_cons (pe_call G_draw (hr.mono (by omega)) (by rfl) T.g_draw T.F_draw.kp T.b_draw .nil pass0 (pa_cons (pv 0) (pa_cons (pv 2) pa_nil))) pa_nil)))) pa_nil))))))
      (pss_one (ps_ret (pe_callTy (T := "tuple") call_tuple_of (by rfl) T.m_tuple (by decide +kernel) (pa_cons (pv 3) pa_nil))))))), ?_⟩
    -- how many rows
    refine ⟨_, rfl, _, rfl, p, room, n, rfl, by omega, by omega, D, by omega, fun m J m0 m1 D1 K1 => ⟨_, _, rfl, rfl, by show 0 ≤ sizeLine; decide, fun F hF => ?_⟩⟩
    have FP : F ≠ p := D1.ne_new hF
    refine ⟨_, rfl, 1 + m, rfl, by omega, by omega, for_range (lo := 0) (n := (1 + m).toNat) (fun i σ J' => ∃ (y4 y5 : Option V) (rs : List Row) (vs : List V), σ = [some (.ref p), some (.int room), some (.int (1 + m)), some (.ref F), y4, y5] ∧ rs.length = i ∧ vs.length = i ∧ J' F = some (.lst vs) ∧ Paired (RowAt J' p F) vs rs ∧ (∀ r ∈ rs, RowOf (1 + m) r) ∧ Deck K J' p (n + 1 + 3 * i) ∧ Keep p J J')
      ⟨none, none, [], [], rfl, rfl, rfl, upd_same, .nil, fun r h => (List.not_mem_nil h).elim, D1.put hF, Keep.new hF⟩ ?_ ?_⟩
    · rintro i σ J' hi ⟨y4, y5, rs, vs, rfl, hl, hv, hF', al, hrs, D2, K2⟩
      have hi' : (i : Int) < 1 + m := by omega
      -- the deed
      refine ⟨_, rfl, by show 5 ≤ sizeLine; decide, fun l hl' => ?_⟩
      refine ⟨p, l, _, _, rfl, SqL.of upd_same, D2.ne_new hl', by show 0 < 5; decide, by show 5 < 100000; decide, D2.put hl', by omega, fun j x J3 hx D3 K3 => ?_⟩
      obtain ⟨dd, rfl, hdd⟩ : ∃ dd : Str, x = .str dd ∧ deedOk dd := by
        have mm := List.mem_of_getElem? hx
        simp only [List.mem_cons, List.not_mem_nil, or_false] at mm
        rcases mm with q | q | q | q | q
        · exact ⟨_, q, .inl rfl⟩
        · exact ⟨_, q, .inl rfl⟩
        · exact ⟨_, q, .inr (.inl rfl)⟩
        · exact ⟨_, q, .inr (.inl rfl)⟩
        · exact ⟨_, q, .inr (.inr rfl)⟩
      have K13 := (Keep.new hl').trans K3
      -- its row
      refine ⟨_, rfl, .inl ⟨rfl, _, SqL.of (K13.at FP hF')⟩, _, rfl, _, rfl, _, rfl, p, 1 + m, _, rfl, by omega, by omega, D3, by omega, fun a J4 a0 a1 D4 K4 => ?_⟩
      refine ⟨_, rfl, _, rfl, p, 1 + m, _, rfl, by omega, by omega, D4, by omega, fun b J5 b0 b1 D5 K5 => ?_⟩
      refine ⟨by show 3 ≤ sizeLine; decide, fun t ht => ?_⟩
      have K25 : Keep p J' J5 := (K13.trans K4).trans K5
      have hF5 : J5 F = some (.lst vs) := K25.at FP hF'
      have tF : t ≠ F := (ne_of_none hF5 ht).symm
      have tp : t ≠ p := D5.ne_new ht
      refine ⟨F, vs, _, rfl, rfl, by rw [upd_ne tF.symm]; exact hF5, Nat.lt_of_lt_of_le (by omega : vs.length < 1000) (by decide), ?_⟩
      have hK : Keep p J (upd (upd J5 t (.tup [.str dd, .int a, .int b])) F (.lst (vs ++ [.ref t]))) := by
        have z : Keep p J (upd J5 t (.tup [.str dd, .int a, .int b])) := (K2.trans K25).trans (Keep.new ht)
        exact z.write hF FP
      refine ⟨_, _, rs ++ [(dd, a, b)], vs ++ [.ref t], rfl, by rw [List.length_append, List.length_singleton, hl], by rw [List.length_append, List.length_singleton, hv], upd_same, ?_, ?_, ?_, hK⟩
      · refine paired_snoc (Paired.mapP al fun v r ⟨c, e, c1, c2, c3⟩ => ⟨c, e, c1, c2, ?_⟩) ⟨t, rfl, tp, tF, by rw [upd_ne tF, upd_same]⟩
        rw [upd_ne c2]
        exact (Keep.new (p := p) ht).at c1 (K25.at c1 c3)
      · intro r hr'
        rcases List.mem_append.mp hr' with q | q
        · exact hrs r q
        · rw [List.mem_singleton] at q
          rw [q]
          exact ⟨hdd, a0, a1, b0, b1⟩
      · have D6 := D5.put (o := .tup [.str dd, .int a, .int b]) ht
        have D7 := D1.write hF ((K2.trans K25).trans (Keep.new (o := .tup [.str dd, .int a, .int b]) ht)) D6 (o := .lst (vs ++ [.ref t]))
        exact D7
    · rintro σ J' ⟨y4, y5, rs, vs, rfl, hl, hv, hF', al, hrs, D2, K2⟩
      have el : (rs.length : Int) = 1 + m := by omega
      refine ⟨_, rfl, F, vs, rfl, .inl ⟨SqL.of hF', fun t ht => ?_⟩⟩
      have tp := D2.ne_new ht
      have KT : Keep p J' (upd J' t (.tup vs)) := Keep.new ht
      refine k rs _ _ (n + 1 + 3 * (1 + m).toNat) ⟨by omega, by omega, by rw [el]; exact hrs⟩ (.tup (SqT.of (off_at tp upd_same)) (rows_dp (Paired.mapP al fun v r ⟨c, e, c1, c2, c3⟩ => ⟨c, e, c1, c2, KT.at c1 c3⟩))) (by omega) (D2.put ht) ((K1.trans K2).trans KT)
end

/-! ### the places at which a row of numbers changes -/
def changesP (ns : List Int) (i : Nat) : Bool := ns[i + 1]? != ns[i]?
def changesI (ns : List Int) : List Int := ((List.range (ns.length - 1)).filter (changesP ns)).map fun i : Nat => 1 + (i : Int)

/-! ### where a course changes -/
def sp_changes (K : PySem.W.Frag) (tb : Addr) : Sp := fun vs H Q _ => ∃ (a : Addr) (ns : List Int), vs = [.ref a] ∧ SqT K H a (ns.map V.int) ∧ ns.length ≤ sizeLine ∧ GxR.TabG H tb ∧
  ∀ (t : Addr) (J : Hp), Grow H J → J t = some (.tup ((changesI ns).map V.int)) → Q (.ref t) J
section
variable {P : Program} {w : World} {K : PySem.W.Frag} {mg : Str → Option Value} {base : Heap}
theorem ok_changes (T : Txt K mg) (TB : GxR.TabB base mg T.c_changes_of T.p_changes_of) : FnOk P w K mg base CX0 2 T.a_changes_of T.d_changes_of ["course"] (sp_changes K T.p_changes_of) := by
  refine Fun.okC T.F_changes_of T.h_changes_of sc_changes_of (fun vs H Q E h => ?_) (fun A outer s H vs Q E hr h => ?_)
  · obtain ⟨a, ns, rfl, _⟩ := h
    rfl
  · obtain ⟨a, ns, rfl, hx, hl, hT, k⟩ := h
    refine ⟨_, (pss_one (ps_ret (pe_tupG (c := T.c_changes_of) (P := T.p_changes_of) hr (by rfl) T.m_tuple TB rfl ⟨rfl, rfl, by decide +kernel, rfl, rfl, gen_free (by decide +kernel)⟩ (pe_callTy (T := "range") cr_rangeTwo (by rfl) T.m_range (by decide +kernel) (pa_cons pe_int (pa_cons (pe_callB (id := "len") call_len_seq (by rfl) T.m_len (by decide +kernel) (pa_cons (pv 0) pa_nil)) pa_nil))) (fun _ => rfl) rfl))), ?_⟩
    refine ⟨_, rfl, a, _, rfl, .inr hx, 1, _, rfl, fun r hr => ?_⟩
    have g1 : Grow H (upd H r (.rng 1 ((ns.map V.int).length : Int))) := Grow.new hr
    have el : (((ns.map V.int).length : Int) - 1).toNat = ns.length - 1 := by rw [List.length_map]; omega
    have hl' : (ns.map V.int).length ≤ sizeLine := by rw [List.length_map]; exact hl
    have l63 : (ns.length : Int) < 2 ^ 62 := by
      have h9 : (sizeLine : Int) < 2 ^ 62 := by decide
      omega
    refine ⟨r, 1, _, changesP ns, fun i => 1 + (i : Int), rfl, upd_same, by decide, by decide, by omega, by rw [List.length_map]; exact l63, by rw [el]; omega, g1.t.tab hT, ?_, fun t H2 hB ht => ?_⟩
    · intro pins s1 I1
      obtain ⟨u, c, ru, hc, hcell⟩ := Inv.freeAt (i := 0) (x := "course") I1 rfl rfl rfl
      have eu : u = .ref a := ru
      subst eu
      obtain ⟨its, rv, ht, _⟩ := I1.tuple (g1.tup hx)
      obtain ⟨ps, hps, _⟩ := g1.t.tab hT
      have hP := I1.hok _ _ hps
      intro cenv A' E' i t s2 m2 hi hsc hcl hA hns hm2 hk
      rw [el] at hi
      have hkind : cenv.scope.kind = .function := by rw [hsc]
      have ht2 : IsTup s2.heap a its.toArray := by
        obtain ⟨o, ho, hc1, n, hd⟩ := ht
        refine ⟨o, hk a o (fun z => ?_) ho, hc1, n, hd⟩
        rw [z, hP] at ho
        cases ho
        cases hd
      have hcell2 : s2.heap.IsCell c (some (.ref a)) := by
        obtain ⟨o, ho, hd⟩ := hcell
        refine ⟨o, hk c o (fun z => ?_) ho, hd⟩
        rw [z, hP] at ho
        cases ho
        cases hd
      have hcc : cenv.cells.lookup ("course" : Str) = some c := by rw [hcl]; exact clo_at hc _ _ (Or.inl (by decide +kernel))
      have gc : ∀ p : Pos, GV P w A' cenv s2 (.Name "course" p) (· = .ref a) := fun p => gv_free hkind (by rw [hsc]; rfl) hcc hcell2 rfl
      have gm : ∀ p : Pos, GV P w A' cenv s2 (.Name "moment" p) (IsI (1 + (i : Int))) := fun p => gv_loc hkind (by rw [hsc]; rfl) hns hm2 ⟨_, rfl⟩
      have at1 : atI (ns.map V.int) (1 + (i : Int)) = some (.int ns[i + 1]) := by
        rw [show (1 + (i : Int)) = ((i + 1 : Nat) : Int) by omega]
        refine atI_nat ?_
        rw [List.getElem?_map, List.getElem?_eq_getElem (by omega)]
        rfl
      have at0 : atI (ns.map V.int) (1 + (i : Int) - 1) = some (.int ns[i]) := by
        rw [show (1 + (i : Int) - 1) = (i : Int) by omega]
        refine atI_nat ?_
        rw [List.getElem?_map, List.getElem?_eq_getElem (by omega)]
        rfl
      have ep : changesP ns i = (ns[i + 1] != ns[i]) := by
        unfold changesP
        rw [List.getElem?_eq_getElem (by omega), List.getElem?_eq_getElem (by omega)]
        rfl
      refine ⟨?_, fun _ => ?_⟩
      · rw [ep]
        exact gt_ne (gv_ix (gc _) (gm _) ht2 rv hl' at1 (fun u hu => hu) (fun _ _ => rfl)) (gv_ix (gc _) (gv_sub (gm _) gv_int) ht2 rv hl' at0 (fun u hu => hu) (fun _ _ => rfl)) (by with_unfolding_all rfl) E'
      · exact (gm _) _ _ (GxR.keeps_refl _)
    · rw [el] at *
      exact k t _ ((g1.trans (Grow.tabbed (g1.t.tab hT) hB)).write (Grow.free (g1.trans (Grow.tabbed (g1.t.tab hT) hB)) ht)) (by rw [upd_same]; unfold changesI; rw [List.map_map]; rfl)
end

/-! ### for how long the head must stay -/
def holdI (r : Int) (ns : List Int) : Int := match (changesI ns).getLast? with
  | none => 0
  | some c => max 0 (r - 1 - ((ns.length : Int) - 1 - c))
theorem atI_last {α : Type} {xs : List α} {v : α} (h : xs.getLast? = some v) : atI xs (-1) = some v := by
  unfold atI ixN
  have h0 : 0 < xs.length := by
    cases xs with
    | nil => cases h
    | cons _ _ => simp
  rw [if_neg (by decide), if_pos (by omega), Option.bind_some]
  rw [List.getLast?_eq_getElem?] at h
  rw [show ((-1 : Int) + (xs.length : Int)).toNat = xs.length - 1 by omega]
  exact h

/-! ### the law's own word on changes and rest -/
def gapsB (r : Int) (cs : List Int) : Bool := (cs.zip (cs.drop 1)).all fun p => !decide (p.2 - p.1 < r)
def keptB (ns : List Int) (r : Int) : Bool := gapsB r (changesI ns)
def sp_kept (K : PySem.W.Frag) : Sp := fun vs H Q _ => ∃ (a : Addr) (r : Int) (ns : List Int), vs = [.ref a, .int r] ∧ SqA K H a (ns.map V.int) ∧ ns.length ≤ 400000 ∧ ∀ J, Same H J → Q (.bl (keptB ns r)) J
theorem small1000' {n : Nat} (h : n ≤ 500000) : n < sizeLine := Nat.lt_of_le_of_lt h (by decide)
theorem int_nat {ns : List Int} {i : Nat} {z : Int} (h : ns[i]? = some z) : atI (ns.map V.int) (i : Int) = some (.int z) := by
  refine atI_nat ?_
  rw [List.getElem?_map, h]
  rfl
theorem cut_one (xs : List V) : cutV xs (some 1) none = xs.drop 1 := by
  cases xs with
  | nil => rfl
  | cons x r => exact cut_from (x :: r) 1 (by rw [List.length_cons]; omega)
/-- the first i places at which it changes -/
def chg (ns : List Int) (i : Nat) : List Int := ((List.range i).filter (changesP ns)).map fun i : Nat => 1 + (i : Int)
theorem chg_len (ns : List Int) (i : Nat) : (chg ns i).length ≤ i := by
  unfold chg
  rw [List.length_map]
  exact Nat.le_trans (List.length_filter_le _ _) (by rw [List.length_range]; exact Nat.le_refl _)
theorem chg_succ (ns : List Int) (i : Nat) : chg ns (i + 1) = if changesP ns i = true then chg ns i ++ [1 + (i : Int)] else chg ns i := by
  unfold chg
  rw [List.range_succ, List.filter_append, List.map_append]
  split
  · rename_i h
    simp [h]
  · rename_i h
    simp [h]
theorem changesP_at {ns : List Int} {i : Nat} {x y : Int} (hx : ns[i + 1]? = some x) (hy : ns[i]? = some y) : changesP ns i = (x != y) := by
  unfold changesP
  rw [hx, hy]
  rfl
section
variable {P : Program} {w : World} {K : PySem.W.Frag} {mg : Str → Option Value} {base : Heap}
theorem ok_kept (T : Txt K mg) : FnOk P w K mg base CX0 1 T.a_rest_kept T.d_rest_kept ["_law_course", "_law_rest"] (sp_kept K) := by
  refine T.F_rest_kept.ok sc_rest_kept (fun vs H Q E h => ?_) (fun cdv A outer s H vs Q E hr h => ?_)
  · obtain ⟨a, r, ns, rfl, _⟩ := h
    rfl
  · obtain ⟨a, r, ns, rfl, hx, hl, k⟩ := h
    refine ⟨_, (pss_cons (ps_setLc (i := 2) (own := [("_law_moment", 3)]) (g := gName 3) (by rfl) sc_rest_kept.nd rfl rfl (sw_true rfl rfl rfl (by decide +kernel)) (pi_range2 (by rfl) T.m_range (pa_cons pe_int (pa_cons (pe_callB (id := "len") call_len_seq (by rfl) T.m_len (by decide +kernel) (pa_cons (pv 0) pa_nil)) pa_nil))) (blkOk_by (own := [("_law_moment", 3)]) (N := ["_law_course", "_law_rest", "_law_some", "_law_moment", "_law_one_here", "_law_other"]) (sc := defScope s_rest_kept) (by decide +kernel)) (fun _ _ _ _ _ => (pg_name (i := 3) sc_rest_kept.nd rfl (Or.inl rfl))) (fun _ _ _ _ _ => (pts_one (pt_cmpR op_ne (pe_ix (ixSK K rfl) (pv 0) (pv 3) (fun _ _ => rfl)) (pe_ix (ixSK K rfl) (pv 0) (pe_op op_sub (pv 3) pe_int) (fun _ _ => rfl)) (nomark _)))) (fun _ _ _ _ _ => (pv 3)))
      (pss_one (ps_ret (pe_cmpR (op_eqD hr.units) (pe_lc (own := [("_law_one_here", 4), ("_law_other", 5)]) (g := gTup K 2 (gCons (gName 4) (gCons (gName 5) gNil))) (by rfl) sc_rest_kept.nd (pi_zip (by rfl) T.m_zip (pa_cons (pv 2) (pa_cons (pe_slice sl_list (pv 2) (po_some pe_int) po_none) pa_nil))) (blkOk_by (own := [("_law_one_here", 4), ("_law_other", 5)]) (N := ["_law_course", "_law_rest", "_law_some", "_law_moment", "_law_one_here", "_law_other"]) (sc := defScope s_rest_kept) (by decide +kernel)) (fun _ _ _ _ _ => (pg_pairK K (i := 4) (j := 5) rfl rfl sc_rest_kept.nd rfl (Or.inl rfl) rfl (Or.inl rfl))) (fun _ _ _ _ _ => (pts_one (pt_cmpR op_lt (pe_op op_sub (pv 5) (pv 4)) (pv 1) (nomark _)))) (fun _ _ _ _ _ => pe_int)) (pe_lst pa_nil) (nomark _))))), ?_⟩
    have hl' : (ns.map V.int).length = ns.length := List.length_map ..
    refine ⟨_, rfl, a, _, rfl, hx, ?_⟩
    refine ⟨1, _, rfl, ⟨by decide, by decide, by omega, by omega⟩, fun F hF => ?_⟩
    rw [hl']
    refine lc_range (lo := 1) (n := ((ns.length : Int) - 1).toNat) (fun i J => J = upd H F (.lst ((chg ns i).map V.int))) rfl ?_ ?_
    · rintro i J hi rfl
      have hx' := hx.same (same_new (o := .lst ((chg ns i).map V.int)) hF)
      refine ⟨rfl, ?_⟩
      have g1 : ns[i + 1]? = some ns[i + 1] := List.getElem?_eq_getElem (by omega)
      have g0 : ns[i]? = some ns[i] := List.getElem?_eq_getElem (by omega)
      refine ⟨_, rfl, _, rfl, rIx_of hx' (show atI (ns.map V.int) (1 + (i : Int)) = _ by rw [show (1 + (i : Int)) = ((i + 1 : Nat) : Int) by omega]; exact int_nat g1) ?_⟩
      refine ⟨_, rfl, _, rfl, _, _, rfl, rfl, rIx_of hx' (show atI (ns.map V.int) (1 + (i : Int) - 1) = _ by rw [show (1 + (i : Int) - 1) = (i : Int) by omega]; exact int_nat g0) ?_⟩
      refine ⟨rfl, _, rfl, ?_⟩
      have es := chg_succ ns i
      have le := chg_len ns i
      rw [show (!decide (V.int ns[i + 1] = V.int ns[i])) = changesP ns i by rw [dec_int, changesP_at g1 g0]; rfl]
      refine ite2 (fun e => ?_) (fun e => ?_)
      · rw [if_pos e] at es
        refine ⟨_, rfl, _, upd_same, small1000' (by rw [List.length_map]; omega), ?_⟩
        rw [upd_upd, es, List.map_append]
        rfl
      · rw [if_neg e] at es
        rw [es]
    · rintro J rfl
      have ec : chg ns ((ns.length : Int) - 1).toNat = changesI ns := by
        have : ((ns.length : Int) - 1).toNat = ns.length - 1 := by omega
        rw [this]
        rfl
      rw [ec]
      have s1 : Same H (upd H F (.lst ((changesI ns).map V.int))) := same_new hF
      have cl : (changesI ns).length ≤ ns.length := Nat.le_trans (chg_len ns (ns.length - 1)) (by omega)
      refine ⟨_, rfl, _, rfl, 1, rfl, F, _, rfl, SqL.of upd_same, fun c hc => ?_⟩
      have e1 : cutV ((changesI ns).map V.int) (some 1) none = ((changesI ns).drop 1).map V.int := by rw [cut_one, List.map_drop]
      have e2 : keptB ns r = gapsB r (changesI ns) := rfl
      rw [e2] at k
      generalize changesI ns = cs at *
      have hFc : F ≠ c := ne_of_none upd_same hc
      have s2 := s1.trans (same_new (o := .lst (cutV (cs.map V.int) (some 1) none)) hc)
      generalize hH2 : upd (upd H F (.lst (cs.map V.int))) c (.lst (cutV (cs.map V.int) (some 1) none)) = H2 at *
      have hF2 : H2 F = some (.lst (cs.map V.int)) := by rw [← hH2, upd_ne hFc]; exact upd_same
      have hc2 : H2 c = some (.lst ((cs.drop 1).map V.int)) := by rw [← hH2, upd_same, e1]
      refine ⟨F, c, cs.map V.int, (cs.drop 1).map V.int, rfl, SqL.of hF2, SqL.of hc2, fun D hD => ?_⟩
      let f : Int × Int → Bool := fun p => !decide (p.2 - p.1 < r)
      have zl : (cs.zip (cs.drop 1)).length = min (cs.map V.int).length ((cs.drop 1).map V.int).length := by rw [List.length_zip, List.length_map, List.length_map]
      refine lc_it (walk_zip zl) (fun i J => Same H2 J ∧ ∃ n, J D = some (.lst ((List.replicate n (1 : Int)).map V.int)) ∧ n ≤ i ∧ (n = 0 ↔ ((cs.zip (cs.drop 1)).take i).all f = true)) ⟨same_new hD, 0, upd_same, Nat.le_refl _, by simp⟩
        (fun i J _ ⟨S, _⟩ => ⟨SqL.of (S _ _ hF2), SqL.of (S _ _ hc2)⟩) ?_ ?_
      · rintro i v J J' hi ⟨S, n, hDn, hn, iff⟩ ⟨Tp, x', y', rfl, hT, rfl, hx', hy'⟩
        have ei : (cs.zip (cs.drop 1))[i]? = some ((cs.zip (cs.drop 1))[i]) := List.getElem?_eq_getElem hi
        generalize (cs.zip (cs.drop 1))[i] = pr at ei
        obtain ⟨u, y⟩ := pr
        have ez := List.getElem?_zip_eq_some.mp ei
        have hx' : (cs.map V.int)[i]? = some x' := hx'
        have hy' : ((cs.drop 1).map V.int)[i]? = some y' := hy'
        rw [List.getElem?_map, ez.1] at hx'
        rw [List.getElem?_map, ez.2] at hy'
        cases hx'
        cases hy'
        have TD : Tp ≠ D := (ne_of_none hDn hT).symm
        have S' : Same H2 (upd J Tp (.tup [.int u, .int y])) := S.trans (same_new hT)
        have tk : (cs.zip (cs.drop 1)).take (i + 1) = (cs.zip (cs.drop 1)).take i ++ [(u, y)] := by rw [List.take_add_one, ei]; rfl
        refine ⟨Tp, _, rfl, SqT.of upd_same, rfl, _, _, rfl, _, _, rfl, rfl, rfl, ?_⟩
        refine ⟨_, rfl, _, rfl, _, _, rfl, rfl, _, rfl, _, _, rfl, rfl, _, rfl, ?_⟩
        refine ite2 (fun e => ?_) (fun e => ?_)
        · refine ⟨_, by rw [upd_ne TD.symm]; exact hDn, small1000' (by rw [List.length_map, List.length_replicate]; rw [zl, List.length_map] at hi; omega), fun b o hb => ?_, n + 1, ?_, by omega, ?_⟩
          · rw [upd_ne (ne_of_none hb hD)]
            exact S' b o hb
          · rw [upd_same, List.replicate_succ', List.map_append]
            rfl
          · rw [tk, List.all_append]
            simp only [List.all_cons, List.all_nil, Bool.and_true, f, e]
            simp
        · refine ⟨S', n, by rw [upd_ne TD.symm]; exact hDn, by omega, ?_⟩
          rw [tk, List.all_append, iff]
          have e' : decide (y - u < r) = false := by simpa using e
          simp only [List.all_cons, List.all_nil, Bool.and_true, f, e', Bool.not_false]
      · rintro J ⟨S, n, hDn, hn, iff⟩
        refine ⟨Nat.zero_le _, fun q hq => ?_⟩
        have sq : Same J (upd J q (.lst [])) := same_new hq
        refine ⟨.list ((List.replicate n (1 : Int)).map PyData.int), .list [], .lst (SqL.of (sq _ _ hDn)) (ints_dp _), .lst (SqL.of upd_same) .nil, ints_shaped _, by decide, ?_⟩
        rw [ints_nil]
        have e3 : (List.replicate n (1 : Int)).isEmpty = gapsB r cs := by
          rw [List.take_of_length_le (Nat.le_refl _)] at iff
          unfold gapsB
          rw [Bool.eq_iff_iff, ← iff]
          simp
        rw [e3]
        exact k _ ((s2.trans S).trans sq)
end

/-! ### the heads of the last moments -/
def headsI (ns : List Int) (m g : Nat) : List Int := (List.range (g + 1)).map fun i => ns.getD (m - i) 0

/-! ### for how long the head must stay, by the law's own look -/
def sp_lhold (K : PySem.W.Frag) : Sp := fun vs H Q _ => ∃ (th a : Addr) (z r g : Int) (m : Nat) (ns : List Int), vs = [.ref th, .ref a, .int (m : Int)] ∧ SqT K H th [.int z, .int r, .int g] ∧ SqT K H a (ns.map V.int) ∧ ns.length = m + 1 ∧ ns.length ≤ 4000 ∧ 0 ≤ r ∧ r ≤ 100 ∧
  ∀ J, Same H J → Q (.int (holdI r ns)) J
section
variable {P : Program} {w : World} {K : PySem.W.Frag} {mg : Str → Option Value} {base : Heap}
theorem ok_lhold (T : Txt K mg) : FnOk P w K mg base CX0 1 T.a_hold T.d_hold ["_law_house_here", "_law_course", "_law_moment"] (sp_lhold K) := by
  refine T.F_hold.ok sc_hold (fun vs H Q E h => ?_) (fun cdv A outer s H vs Q E hr h => ?_)
  · obtain ⟨th, a, z, r, g, m, ns, rfl, _⟩ := h
    rfl
  · obtain ⟨th, a, z, r, g, m, ns, rfl, hth, hx, lm, hl, r0, r1, k⟩ := h
    refine ⟨_, (pss_cons (ps_setLc (i := 3) (own := [("_law_change", 4)]) (g := gName 4) (by rfl) sc_hold.nd rfl rfl (sw_true rfl rfl rfl (by decide +kernel)) (pi_range2 (by rfl) T.m_range (pa_cons pe_int (pa_cons (pe_op op_add (pv 2) pe_int) pa_nil))) (blkOk_by (own := [("_law_change", 4)]) (N := ["_law_house_here", "_law_course", "_law_moment", "_law_some", "_law_change"]) (sc := defScope s_hold) (by decide +kernel)) (fun _ _ _ _ _ => (pg_name (i := 4) sc_hold.nd rfl (Or.inl rfl))) (fun _ _ _ _ _ => (pts_one (pt_cmpR op_ne (pe_ix (ixTK K rfl) (pv 1) (pv 4) (fun _ _ => rfl)) (pe_ix (ixTK K rfl) (pv 1) (pe_op op_sub (pv 4) pe_int) (fun _ _ => rfl)) (nomark _)))) (fun _ _ _ _ _ => (pv 4)))
      (pss_one (ps_ret (pe_ifExp (pt_cmpR (op_neD hr.units) (pv 3) (pe_lst pa_nil) (nomark _)) (pe_callB (id := "max") (call_max2 rfl) (by rfl) T.m_max (by decide +kernel) (pa_cons pe_int (pa_cons (pe_op op_sub (pe_op op_sub (pe_ix ix_tup (pv 0) pe_int (fun _ _ => rfl)) pe_int) (pe_op op_sub (pv 2) (pe_ix ix_list (pv 3) (pe_un un_neg pe_int) (fun _ _ => rfl)))) pa_nil))) pe_int)))), ?_⟩
    have ll : (ns.map V.int).length = ns.length := List.length_map ..
    refine ⟨_, rfl, _, _, rfl, rfl, 1, _, rfl, ⟨by decide, by decide, by omega, by omega⟩, fun F hF => ?_⟩
    refine lc_range (lo := 1) (n := ((m : Int) + 1 - 1).toNat) (fun i J => J = upd H F (.lst ((chg ns i).map V.int))) rfl ?_ ?_
    · rintro i J hi rfl
      have hx' : SqT K (upd H F (.lst ((chg ns i).map V.int))) a (ns.map V.int) := sameT (same_new hF) hx
      refine ⟨rfl, ?_⟩
      have g1 : ns[i + 1]? = some ns[i + 1] := List.getElem?_eq_getElem (by omega)
      have g0 : ns[i]? = some ns[i] := List.getElem?_eq_getElem (by omega)
      refine ⟨_, rfl, _, rfl, a, _, _, _, rfl, rfl, hx', (show atI (ns.map V.int) (1 + (i : Int)) = _ by rw [show (1 + (i : Int)) = ((i + 1 : Nat) : Int) by omega]; exact int_nat g1), ?_⟩
      refine ⟨_, rfl, _, rfl, _, _, rfl, rfl, a, _, _, _, rfl, rfl, hx', (show atI (ns.map V.int) (1 + (i : Int) - 1) = _ by rw [show (1 + (i : Int) - 1) = (i : Int) by omega]; exact int_nat g0), ?_⟩
      refine ⟨rfl, _, rfl, ?_⟩
      have es := chg_succ ns i
      have le := chg_len ns i
      rw [show (!decide (V.int ns[i + 1] = V.int ns[i])) = changesP ns i by rw [dec_int, changesP_at g1 g0]; rfl]
      refine ite2 (fun e => ?_) (fun e => ?_)
      · rw [if_pos e] at es
        refine ⟨_, rfl, _, upd_same, small1000' (by rw [List.length_map]; omega), ?_⟩
        rw [upd_upd, es, List.map_append]
        rfl
      · rw [if_neg e] at es
        rw [es]
    · rintro J rfl
      have ec : chg ns ((m : Int) + 1 - 1).toNat = changesI ns := by
        rw [show ((m : Int) + 1 - 1).toNat = ns.length - 1 by omega]
        rfl
      rw [ec]
      have s1 : Same H (upd H F (.lst ((changesI ns).map V.int))) := same_new hF
      have hF1 : upd H F (.lst ((changesI ns).map V.int)) F = some (.lst ((changesI ns).map V.int)) := upd_same
      have eh : holdI r ns = match (changesI ns).getLast? with
          | none => 0
          | some c => max 0 (r - 1 - ((ns.length : Int) - 1 - c)) := rfl
      generalize upd H F (.lst ((changesI ns).map V.int)) = H1 at *
      refine ⟨_, rfl, Nat.zero_le _, fun q hq => ?_⟩
      have s2 : Same H1 (upd H1 q (.lst [])) := same_new hq
      have hF2 := s2 _ _ hF1
      refine ⟨.list ((changesI ns).map PyData.int), .list [], .lst (SqL.of hF2) (ints_dp _), .lst (SqL.of upd_same) .nil, ints_shaped _, by decide, _, rfl, ?_⟩
      rw [ints_nil]
      have s12 := s1.trans s2
      generalize upd H1 q (.lst []) = H2 at *
      cases ec2 : (changesI ns).getLast? with
      | none =>
        have e0 : changesI ns = [] := by simpa using ec2
        rw [ec2] at eh
        rw [eh] at k
        rw [e0]
        exact iteF (k H2 s12)
      | some c =>
        rw [ec2] at eh
        have e0 : (changesI ns).isEmpty = false := by
          cases e3 : changesI ns with
          | nil => rw [e3] at ec2; cases ec2
          | cons _ _ => rfl
        rw [e0]
        have hl2 : ((changesI ns).map V.int).getLast? = some (.int c) := by rw [List.getLast?_map, ec2]; rfl
        refine iteT ⟨_, rfl, th, _, 1, _, rfl, rfl, sameT s12 hth, rfl, _, _, rfl, rfl, _, rfl, _, rfl, 1, rfl, F, _, -1, _, rfl, rfl, SqL.of hF2, atI_last hl2, _, _, rfl, rfl, _, _, rfl, rfl, _, _, rfl, ?_⟩
        have e4 : holdI r ns = if r - 1 - ((m : Int) - c) > 0 then r - 1 - ((m : Int) - c) else 0 := by
          rw [eh]
          simp only
          split <;> omega
        rw [e4] at k
        exact k H2 s12
end

/-! ### the heads of the last moments -/
def sp_heads (K : PySem.W.Frag) (tb : Addr) : Sp := fun vs H Q _ => ∃ (th a : Addr) (z r : Int) (g m : Nat) (ns : List Int), vs = [.ref th, .ref a, .int (m : Int)] ∧ SqT K H th [.int z, .int r, .int (g : Int)] ∧ SqT K H a (ns.map V.int) ∧ g ≤ m ∧ m < ns.length ∧ ns.length ≤ 4000 ∧ GxR.TabG H tb ∧
  ∀ (t : Addr) (J : Hp), Grow H J → J t = some (.tup ((headsI ns m g).map V.int)) → Q (.ref t) J
section
variable {P : Program} {w : World} {K : PySem.W.Frag} {mg : Str → Option Value} {base : Heap}
theorem ok_heads (T : Txt K mg) (TB : GxR.TabB base mg T.c_heads_back T.p_heads_back) : FnOk P w K mg base CX0 2 T.a_heads_back T.d_heads_back ["house", "course", "moment"] (sp_heads K T.p_heads_back) := by
  refine Fun.okC T.F_heads_back T.h_heads_back sc_heads_back (fun vs H Q E h => ?_) (fun A outer s H vs Q E hr h => ?_)
  · obtain ⟨th, a, z, r, g, m, ns, rfl, _⟩ := h
    rfl
  · obtain ⟨th, a, z, r, g, m, ns, rfl, hth, hx, gm, ml, hl, hT, k⟩ := h
    refine ⟨_, (pss_cons (ps_set (i := 3) sc_heads_back.nd rfl (Or.inl rfl) (pe_ix ix_tup (pv 0) pe_int (fun _ _ => rfl)))
      (pss_one (ps_ret (pe_tupG (c := T.c_heads_back) (P := T.p_heads_back) hr (by rfl) T.m_tuple TB rfl ⟨rfl, rfl, by decide +kernel, rfl, rfl, gen_free (by decide +kernel)⟩ (pe_callTy (T := "range") cr_rangeOne (by rfl) T.m_range (by decide +kernel) (pa_cons (pe_op op_add (pv 3) pe_int) pa_nil)) (fun _ => rfl) rfl)))), ?_⟩
    refine ⟨_, rfl, th, _, 2, _, rfl, rfl, hth, rfl, ?_⟩
    refine ⟨_, rfl, _, _, rfl, rfl, _, rfl, fun q hq => ?_⟩
    have g1 : Grow H (upd H q (.rng 0 ((g : Int) + 1))) := Grow.new hq
    have el : ((g : Int) + 1 - 0).toNat = g + 1 := by omega
    have hl' : (ns.map V.int).length ≤ sizeLine := by rw [List.length_map]; exact Nat.le_trans hl (by decide)
    refine ⟨q, 0, _, fun _ => true, fun i => ns.getD (m - i) 0, rfl, upd_same, by decide, by decide, by omega, by omega, by rw [el]; exact Nat.le_trans (by omega : g + 1 ≤ 4000) (by decide), g1.t.tab hT, ?_, fun t H2 hB ht => ?_⟩
    · intro pins s1 I1
      obtain ⟨u, c, ru, hc, hcell⟩ := Inv.freeAt (i := 1) (x := "course") I1 rfl rfl rfl
      obtain ⟨u2, c2, ru2, hc2, hcell2⟩ := Inv.freeAt (i := 2) (x := "moment") I1 rfl rfl rfl
      have eu : u = .ref a := ru
      subst eu
      obtain ⟨tk2, eu2⟩ : ∃ t, u2 = .int (m : Int) t := ru2
      subst eu2
      obtain ⟨its, rv, ht, _⟩ := I1.tuple (g1.tup hx)
      obtain ⟨ps, hps, _⟩ := g1.t.tab hT
      have hP := I1.hok _ _ hps
      intro cenv A' E' i t s2 m2 hi hsc hcl hA hns hm2 hk
      rw [el] at hi
      have hkind : cenv.scope.kind = .function := by rw [hsc]
      have ht2 : IsTup s2.heap a its.toArray := by
        obtain ⟨o, ho, hc1, n, hd⟩ := ht
        refine ⟨o, hk a o (fun z => ?_) ho, hc1, n, hd⟩
        rw [z, hP] at ho
        cases ho
        cases hd
      have cellAt : ∀ {d : Addr} {v : Value}, s1.heap.IsCell d (some v) → s2.heap.IsCell d (some v) := fun {d v} hcl => by
        obtain ⟨o, ho, hd⟩ := hcl
        refine ⟨o, hk d o (fun z => ?_) ho, hd⟩
        rw [z, hP] at ho
        cases ho
        cases hd
      have hcc : cenv.cells.lookup ("course" : Str) = some c := by rw [hcl]; exact clo_at hc _ _ (Or.inl (by decide +kernel))
      have hcm : cenv.cells.lookup ("moment" : Str) = some c2 := by rw [hcl]; exact clo_at hc2 _ _ (Or.inl (by decide +kernel))
      have gc : ∀ p : Pos, GV P w A' cenv s2 (.Name "course" p) (· = .ref a) := fun p => gv_free hkind (by rw [hsc]; rfl) hcc (cellAt hcell) rfl
      have gmo : ∀ p : Pos, GV P w A' cenv s2 (.Name "moment" p) (IsI (m : Int)) := fun p => gv_free hkind (by rw [hsc]; rfl) hcm (cellAt hcell2) ⟨_, rfl⟩
      have gago : ∀ p : Pos, GV P w A' cenv s2 (.Name "ago" p) (IsI (0 + (i : Int))) := fun p => gv_loc hkind (by rw [hsc]; rfl) hns hm2 ⟨_, rfl⟩
      have at1 : atI (ns.map V.int) ((m : Int) - (0 + (i : Int))) = some (.int (ns.getD (m - i) 0)) := by
        rw [show ((m : Int) - (0 + (i : Int))) = ((m - i : Nat) : Int) by omega]
        refine atI_nat ?_
        rw [List.getElem?_map, List.getElem?_eq_getElem (by omega), List.getD_eq_getElem?_getD, List.getElem?_eq_getElem (by omega)]
        rfl
      refine ⟨gt_nil rfl _, fun _ => ?_⟩
      exact (gv_ix (gc _) (gv_sub (gmo _) (gago _)) ht2 rv hl' at1 (fun u hu => hu) (fun _ _ => rfl)) _ _ (GxR.keeps_refl _)
    · rw [el] at *
      have G := (g1.trans (Grow.tabbed (g1.t.tab hT) hB))
      refine k t _ (G.write (G.free ht)) ?_
      rw [upd_same]
      unfold headsI
      rw [List.map_map, List.filter_eq_self.mpr fun _ _ => rfl]
      rfl
end

/-! ### kinds of values, by the data -/
def wholeD (lo hi : Int) : PyData → Bool
  | .int i => decide (lo ≤ i) && decide (i ≤ hi)
  | _ => false
theorem whole_int {lo hi : Int} {d : PyData} (h : wholeD lo hi d = true) : ∃ i, d = .int i ∧ lo ≤ i ∧ i ≤ hi := by
  cases d <;> first | (exact ⟨_, rfl, by simpa [wholeD] using h⟩) | (exfalso; revert h; simp [wholeD])
theorem isA_whole {lo hi : Int} {d : PyData} (h : (isA "bool" d || !isA "int" d) = true) : wholeD lo hi d = false := by
  cases d <;> first | rfl | (exfalso; revert h; simp [isA, isS, kindD])
def sp_whole (K : PySem.W.Frag) : Sp := fun vs H Q _ => ∃ (v : V) (d : PyData) (lo hi : Int), vs = [v, .int lo, .int hi] ∧ Dp K H v d ∧ Q (.bl (wholeD lo hi d)) H
theorem isA_int_of {d : PyData} (h1 : ¬ isA "bool" d = true) (h2 : ¬ (!isA "int" d) = true) : ∃ i, d = .int i := by
  cases d <;> first | exact ⟨_, rfl⟩ | (exfalso; revert h1 h2; simp [isA, isS, kindD])
section
variable {P : Program} {w : World} {K : PySem.W.Frag} {mg : Str → Option Value} {base : Heap}
theorem ok_whole (T : Txt K mg) : FnOk P w K mg base CX0 1 T.a_whole T.d_whole ["value", "low", "high"] (sp_whole K) := by
  refine T.F_whole.ok sc_whole (fun vs H Q E h => ?_) (fun cdv A outer s H vs Q E hr h => ?_)
  · obtain ⟨v, d, lo, hi, rfl, _⟩ := h
    rfl
  · obtain ⟨v, d, lo, hi, rfl, hd, k⟩ := h
    refine ⟨_, (pss_cons (ps_if (PW.pt (pw_or (pt_val (pe_callB (id := "isinstance") (call_isD "bool" (by decide)) (by rfl) T.m_isinstance (by decide +kernel) (pa_cons (pv 0) (pa_cons (pe_bltn (v := .ty "bool") (by rfl) T.m_bool (by decide +kernel) rfl) pa_nil)))) (pw_or1 (pt_not (pt_val (pe_callB (id := "isinstance") (call_isD "int" (by decide)) (by rfl) T.m_isinstance (by decide +kernel) (pa_cons (pv 0) (pa_cons (pe_bltn (v := .ty "int") (by rfl) T.m_int (by decide +kernel) rfl) pa_nil))))))))
        (pss_one (ps_ret pe_bl))
        pss_nil)
      (pss_one (ps_ret (pe_chain op_le op_le (pv 1) (pv 0) (pv 2))))), ?_⟩
    refine ⟨_, rfl, v, d, rfl, hd, _, rfl, ite2 (fun hb => ?_) (fun hb => ?_)⟩
    · rw [isA_whole (by rw [hb]; rfl)] at k
      exact iteT k
    · refine ⟨_, rfl, v, d, rfl, hd, _, rfl, ite2 (fun hi' => ?_) (fun hi' => ?_)⟩
      · rw [isA_whole (by rw [hi', Bool.or_true])] at k
        exact k
      · obtain ⟨i, rfl⟩ := isA_int_of hb hi'
        cases hd
        refine ⟨_, rfl, _, rfl, lo, i, rfl, rfl, _, rfl, ?_⟩
        by_cases hl : lo ≤ i
        · rw [decide_eq_true hl]
          refine iteT ⟨_, rfl, i, hi, rfl, rfl, ?_⟩
          have e : wholeD lo hi (.int i) = decide (i ≤ hi) := by simp only [wholeD, decide_eq_true hl, Bool.true_and]
          rw [e] at k
          exact k
        · rw [decide_eq_false hl]
          refine iteF ?_
          have e : wholeD lo hi (.int i) = false := by simp only [wholeD, decide_eq_false hl, Bool.false_and]
          rw [e] at k
          exact k
end

/-! ### what is a course -/
def intD : PyData → Int
  | .int i => i
  | _ => 0
def courseD (z r : Int) : PyData → Bool
  | .tuple ds => !ds.isEmpty && ds.all (wholeD 0 (z - 1)) && keptB (ds.map intD) r
  | _ => false
theorem all_whole {K : PySem.W.Frag} {H : Hp} {lo hi : Int} : ∀ {vs : List V} {ds : List PyData}, DpAll K H vs ds → ds.all (wholeD lo hi) = true → vs = (ds.map intD).map V.int
  | _, _, .nil, _ => rfl
  | _, _, .cons a b, h => by
    rw [List.all_cons, Bool.and_eq_true] at h
    obtain ⟨i, rfl, _⟩ := whole_int h.1
    cases a
    rw [all_whole b h.2]
    rfl
def sp_iscourse (K : PySem.W.Frag) (tb : Addr) : Sp := fun vs H Q _ => ∃ (th : Addr) (v : V) (z r g : Int) (d : PyData), vs = [.ref th, v] ∧ SqT K H th [.int z, .int r, .int g] ∧ Dp K H v d ∧ (∀ ds, d = .tuple ds → ds.length ≤ 4000) ∧ GxR.TabG H tb ∧
  ∀ J, Grow H J → Q (.bl (courseD z r d)) J
section
variable {P : Program} {w : World} {K : PySem.W.Frag} {mg : Str → Option Value} {base : Heap}
theorem ok_iscourse (T : Txt K mg) (TB : GxR.TabB base mg T.c_changes_of T.p_changes_of) : FnOk P w K mg base CX0 3 T.a_is_course T.d_is_course ["house", "value"] (sp_iscourse K T.p_changes_of) := by
  have G_whole : FnOk P w K mg base CX0 1 T.a_whole T.d_whole ["value", "low", "high"] (sp_whole K) := ok_whole T
  have G_changes_of : FnOk P w K mg base CX0 2 T.a_changes_of T.d_changes_of ["course"] (sp_changes K T.p_changes_of) := ok_changes T TB
  refine T.F_is_course.ok sc_is_course (fun vs H Q E h => ?_) (fun cdv A outer s H vs Q E hr h => ?_)
  · obtain ⟨th, v, z, r, g, d, rfl, _⟩ := h
    rfl
  · obtain ⟨th, v, z, r, g, d, rfl, hth, hd, hl, hT, k⟩ := h
    refine ⟨_, (pss_cons (ps_asg (pv 0) (pg_tup (by rfl) (pgs_cons (pg_name (i := 2) sc_is_course.nd rfl (Or.inr rfl)) (pgs_cons (pg_name (i := 3) sc_is_course.nd rfl (Or.inr rfl)) (pgs_cons (pg_name (i := 4) sc_is_course.nd rfl (Or.inl rfl)) pgs_nil)))))
      (pss_cons (ps_if (PW.pt (pw_or (pt_not (pt_val (pe_callB (id := "isinstance") (call_isD "tuple" (by decide)) (by rfl) T.m_isinstance (by decide +kernel) (pa_cons (pv 1) (pa_cons (pe_bltn (v := .ty "tuple") (by rfl) T.m_tuple (by decide +kernel) rfl) pa_nil))))) (pw_or1 (pt_cmpR op_eq (pe_callB (id := "len") call_len_seq (by rfl) T.m_len (by decide +kernel) (pa_cons (pv 1) pa_nil)) pe_int (nomark _)))))
        (pss_one (ps_ret pe_bl))
        pss_nil)
      (pss_cons (ps_if (pt_not (pt_val (pe_callB (id := "all") (cr_all rfl) (by rfl) T.m_all (by decide +kernel) (pa_cons (pe_lc (own := [("head", 5)]) (g := gName 5) (by rfl) sc_is_course.nd (pi_tup (pv 1)) (blkOk_by (own := [("head", 5)]) (N := ["house", "value", "servers", "rest", "_", "head", "changes", "soon", "late"]) (sc := defScope s_is_course) (by decide +kernel)) (fun _ _ _ _ _ => (pg_name (i := 5) sc_is_course.nd rfl (Or.inl rfl))) (fun _ _ _ _ _ => pts_nil) (fun _ _ _ _ _ => (pe_call G_whole (hr.mono (by omega)) (by rfl) T.g_whole T.F_whole.kp T.b_whole .nil pass0 (pa_cons (pv 5) (pa_cons pe_int (pa_cons (pe_op op_sub (pv 2) pe_int) pa_nil)))))) pa_nil))))
        (pss_one (ps_ret pe_bl))
        pss_nil)
      (pss_cons (ps_set (i := 6) sc_is_course.nd rfl (Or.inl rfl) (pe_call G_changes_of (hr.mono (by omega)) (by rfl) T.g_changes_of T.F_changes_of.kp T.b_changes_of .nil pass0 (pa_cons (pv 1) pa_nil)))
      (pss_one (ps_ret (pe_callB (id := "all") (cr_all rfl) (by rfl) T.m_all (by decide +kernel) (pa_cons (pe_lc (own := [("soon", 7), ("late", 8)]) (g := gTup K 2 (gCons (gName 7) (gCons (gName 8) gNil))) (by rfl) sc_is_course.nd (RZ.pi_zipA (by rfl) T.m_zip (pa_cons (pv 6) (pa_cons (pe_slice sl_tupS (pv 6) (po_some pe_int) po_none) pa_nil))) (blkOk_by (own := [("soon", 7), ("late", 8)]) (N := ["house", "value", "servers", "rest", "_", "head", "changes", "soon", "late"]) (sc := defScope s_is_course) (by decide +kernel)) (fun _ _ _ _ _ => (pg_pairK K (i := 7) (j := 8) rfl rfl sc_is_course.nd rfl (Or.inl rfl) rfl (Or.inl rfl))) (fun _ _ _ _ _ => pts_nil) (fun _ _ _ _ _ => (pe_cmpR op_ge (pe_op op_sub (pv 8) (pv 7)) (pv 3) (nomark _)))) pa_nil)))))))), ?_⟩
    refine ⟨_, rfl, th, _, rfl, hth, rfl, _, _, rfl, _, _, rfl, _, _, rfl, rfl, ?_⟩
    refine ⟨_, rfl, v, d, rfl, hd, _, rfl, ?_⟩
    cases ht : isA "tuple" d with
    | false =>
      have e : courseD z r d = false := by cases d <;> first | rfl | (exfalso; revert ht; simp [isA, isS, kindD])
      rw [e] at k
      exact iteT (iteT (k H (Grow.refl H)))
    | true =>
    obtain ⟨ds, rfl⟩ := isA_tup ht
    have hl := hl ds rfl
    cases hd with
    | tup h1 h2 =>
    rename_i t xs
    have hle := dpAll_len h2
    refine iteF ⟨_, rfl, t, xs, rfl, .inr h1, rfl, _, rfl, ?_⟩
    cases hE : ds.isEmpty with
    | true =>
      have e : courseD z r (.tuple ds) = false := by simp only [courseD, hE, Bool.not_true, Bool.false_and]
      rw [e] at k
      have z0 : xs.length = 0 := by rw [hle, List.isEmpty_iff.mp hE]; rfl
      rw [decide_eq_true (show V.int (xs.length : Int) = V.int 0 by rw [z0]; rfl)]
      exact iteT (k H (Grow.refl H))
    | false =>
    have z0 : ds.length ≠ 0 := fun e => by
      rw [List.eq_nil_of_length_eq_zero e] at hE
      cases hE
    rw [decide_eq_false (show ¬ V.int (xs.length : Int) = V.int 0 by intro q; have := V.int.inj q; omega)]
    refine iteF ⟨_, rfl, t, rfl, ⟨_, h1⟩, fun D hD => ?_⟩
    refine lc_tup (K := K) (a := t) (xs := xs) (fun i J => J = upd H D (.lst (((ds.take i).map (wholeD 0 (z - 1))).map V.bl))) rfl (fun i J _ e => by rw [e]; exact sameT (same_new hD) h1) ?_ ?_
    · rintro i x J hx rfl
      obtain ⟨e, he, xd⟩ := dpAll_get h2 hx
      have hS := same_new (o := .lst (((ds.take i).map (wholeD 0 (z - 1))).map V.bl)) hD
      refine ⟨rfl, ?_⟩
      unfold tYes
      refine iteT ?_
      refine ⟨_, rfl, _, rfl, _, _, rfl, rfl, x, e, 0, z - 1, rfl, dpSame hS _ _ xd, ?_⟩
      refine ⟨_, upd_same, small1000' (by simp only [List.length_map, List.length_take]; omega), ?_⟩
      rw [upd_upd, List.take_add_one, he]
      simp only [List.map_append, Option.toList_some, List.map_cons, List.map_nil]
    · rintro J rfl
      have s1 := same_new (o := .lst (((ds.take xs.length).map (wholeD 0 (z - 1))).map V.bl)) hD
      refine ⟨D, (ds.take xs.length).map (wholeD 0 (z - 1)), rfl, SqL.of upd_same, ?_⟩
      rw [hle, List.take_of_length_le (Nat.le_refl _)] at *
      have ea : (ds.map (wholeD 0 (z - 1))).all id = ds.all (wholeD 0 (z - 1)) := by rw [List.all_map]; rfl
      rw [ea]
      refine ⟨_, rfl, ?_⟩
      cases eb : ds.all (wholeD 0 (z - 1)) with
      | false =>
        have e : courseD z r (.tuple ds) = false := by simp only [courseD, eb, Bool.and_false, Bool.false_and]
        rw [e] at k
        exact iteT (k _ (Grow.of_same s1))
      | true =>
      have e : courseD z r (.tuple ds) = keptB (ds.map intD) r := by simp only [courseD, eb, hE, Bool.not_false, Bool.true_and]
      rw [e] at k
      have ex := all_whole h2 eb
      have h9 : SqT K H t ((ds.map intD).map V.int) := by rw [← ex]; exact h1
      have ln : (ds.map intD).length = ds.length := List.length_map ..
      generalize ds.map intD = ns at *
      refine iteF ⟨_, rfl, t, ns, rfl, sameT s1 h9, Nat.le_trans (by omega : ns.length ≤ 4000) (by decide), (Grow.of_same s1).t.tab hT, fun t2 J2 G2 hJ2 => ?_⟩
      have e2 : keptB ns r = gapsB r (changesI ns) := rfl
      have cl : (changesI ns).length ≤ ns.length := Nat.le_trans (chg_len ns (ns.length - 1)) (by omega)
      rw [e2] at k
      have e1 : cutV ((changesI ns).map V.int) (some 1) none = ((changesI ns).drop 1).map V.int := by rw [cut_one, List.map_drop]
      generalize changesI ns = cs at *
      refine ⟨_, rfl, _, rfl, 1, rfl, t2, _, rfl, SqT.of hJ2, fun c J3 hc S3 => ?_⟩
      rw [e1] at hc
      refine ⟨t2, c, cs.map V.int, (cs.drop 1).map V.int, rfl, .inr ⟨SqT.of (S3 _ _ hJ2), hc, fun D2 hD2 => ?_⟩⟩
      let f : Int × Int → Bool := fun p => decide (r ≤ p.2 - p.1)
      have zl : (cs.zip (cs.drop 1)).length = min (cs.map V.int).length ((cs.drop 1).map V.int).length := by rw [List.length_zip, List.length_map, List.length_map]
      refine lc_it (walk_zipT zl) (fun i J => Same J3 J ∧ J D2 = some (.lst ((((cs.zip (cs.drop 1)).take i).map f).map V.bl))) ⟨same_new hD2, upd_same⟩
        (fun i J _ ⟨S, _⟩ => ⟨SqT.of (S _ _ (S3 _ _ hJ2)), sameT S hc⟩) ?_ ?_
      · rintro i v J J' hi ⟨S, hDn⟩ ⟨Tp, x', y', rfl, hTp, rfl, hx', hy'⟩
        have ei : (cs.zip (cs.drop 1))[i]? = some ((cs.zip (cs.drop 1))[i]) := List.getElem?_eq_getElem hi
        generalize (cs.zip (cs.drop 1))[i] = pr at ei
        obtain ⟨u, y⟩ := pr
        have ez := List.getElem?_zip_eq_some.mp ei
        have hx' : (cs.map V.int)[i]? = some x' := hx'
        have hy' : ((cs.drop 1).map V.int)[i]? = some y' := hy'
        rw [List.getElem?_map, ez.1] at hx'
        rw [List.getElem?_map, ez.2] at hy'
        cases hx'
        cases hy'
        have TD : Tp ≠ D2 := (ne_of_none hDn hTp).symm
        have S' : Same J3 (upd J Tp (.tup [.int u, .int y])) := S.trans (same_new hTp)
        refine ⟨Tp, _, rfl, SqT.of upd_same, rfl, _, _, rfl, _, _, rfl, rfl, rfl, ?_⟩
        unfold tYes
        refine iteT ⟨_, rfl, _, rfl, _, _, rfl, rfl, _, rfl, _, _, rfl, rfl, ?_⟩
        refine ⟨_, by rw [upd_ne TD.symm]; exact hDn, small1000' ?_, fun b o hb => ?_, ?_⟩
        · rw [zl, List.length_map] at hi
          simp only [List.length_map, List.length_take]
          omega
        · rw [upd_ne (ne_of_none hb hD2)]
          exact S' b o hb
        · rw [upd_same, List.take_add_one, ei]
          simp only [List.map_append, Option.toList_some, List.map_cons, List.map_nil]
          rfl
      · rintro J ⟨S, hDn⟩
        rw [List.take_of_length_le (Nat.le_refl _)] at hDn
        refine ⟨D2, _, rfl, SqL.of hDn, ?_⟩
        have e3 : (((cs.zip (cs.drop 1)).map f).all id) = gapsB r cs := by
          rw [List.all_map]
          unfold gapsB
          refine List.all_congr rfl (fun p => ?_)
          show decide (r ≤ p.2 - p.1) = !decide (p.2 - p.1 < r)
          by_cases q : r ≤ p.2 - p.1
          · rw [decide_eq_true q, decide_eq_false (by omega)]
            rfl
          · rw [decide_eq_false q, decide_eq_true (by omega)]
            rfl
        rw [e3]
        exact k _ (((Grow.of_same s1).trans G2).trans (Grow.of_same (S3.trans S)))
end

/-! ### what every law's own def needs -/
theorem room_law (e : Env) : Room 50 (callerA.deeper e) := (show Room 51 callerA from ⟨rfl, by decide, by decide⟩).deeper e
theorem show_bool (b : Bool) : PyData.showable (.bool b) = true ∧ PyData.depth (.bool b) ≤ 50 ∧ (PyData.shown (.bool b)).length ≤ sizeLine := by
  refine ⟨by simp only [PyData.showable], by simp only [PyData.depth]; decide, ?_⟩
  cases b <;> simp only [PyData.shown] <;> exact Nat.le_trans (by decide : _ ≤ 5) (by decide)
theorem pow_pos_int {s : Int} (h : 0 < s) : ∀ n : Nat, 0 < s ^ n
  | 0 => by rw [Int.pow_zero]; decide
  | n + 1 => by rw [Int.pow_succ]; exact Int.mul_pos (pow_pos_int h n) h
theorem nice_int {e : Nat} {i : Int} (he : 10 ≤ e) (h : i.natAbs ≤ 1000) : nice e (.int i) = true := by
  have p : 2 ^ 10 ≤ 2 ^ e := Nat.pow_le_pow_right (by decide) he
  simp only [nice, decide_eq_true_eq]
  omega
theorem nice_three {e : Nat} {x y z : Int} (he : 10 ≤ e) (hx : x.natAbs ≤ 1000) (hy : y.natAbs ≤ 1000) (hz : z.natAbs ≤ 1000) : nice e (.tuple [.int x, .int y, .int z]) = true := by
  simp only [nice, niceAll, Bool.and_eq_true]
  exact ⟨by simpa only [nice] using nice_int he hx, by simpa only [nice] using nice_int he hy, by simpa only [nice] using nice_int he hz, trivial⟩
theorem tiny_three {x y z : Int} (hx : x.natAbs ≤ 1000) (hy : y.natAbs ≤ 1000) (hz : z.natAbs ≤ 1000) : Tiny 140 4 1 (.tuple [.int x, .int y, .int z]) :=
  ⟨nice_three (by decide) hx hy hz, by simp [wt, wtAll], by simp [PyData.depth, PyData.depthAll]⟩
theorem tiny_int {x : Int} (hx : x.natAbs ≤ 1000) : Tiny 140 1 0 (.int x) := ⟨nice_int (by decide) hx, by simp [wt], by simp [PyData.depth]⟩
theorem ne_self (x : V) : (!decide (x = x)) = false := by
  rw [decide_eq_true rfl]
  rfl

/-! ### more of small data, and of what is kept -/
theorem Deck.sqt {K : PySem.W.Frag} {H J : Hp} {p a : Addr} {n : Nat} {xs : List V} (D : Deck K H p n) (k : Keep p H J) (h : SqT K H a xs) : SqT K J a xs := by
  obtain ⟨_, _, _, _, hp, _⟩ := D
  exact sameT off_in (sameT k.s (tup_off hp h))
theorem Acc.tupI {K : PySem.W.Frag} {p t : Addr} {n : Nat} {vs : List V} {ds : List PyData} {H0 J : Hp} {xs : List V} {ms : List Int} (A : Acc K p n H0 J vs ds) (c : SqT K J t xs) (e : xs = ms.map V.int) : Acc K p n H0 J (vs ++ [.ref t]) (ds ++ [.tuple (ms.map PyData.int)]) := by
  subst e
  exact A.add (dt_of A.dk c (ints_dp ms))
theorem tiny_ints {ms : List Int} {L : Nat} (h : ∀ x ∈ ms, x.natAbs ≤ 1000) (hl : ms.length < L) : Tiny 143 L 20 (.tuple (ms.map PyData.int)) ∧ Tiny 143 L 20 (.list (ms.map PyData.int)) := by
  have w : wtAll (ms.map PyData.int) = ms.length := by
    clear h hl
    induction ms with
    | nil => rfl
    | cons x r ih => simp only [List.map_cons, wtAll, wt, ih, List.length_cons]; omega
  have q := tiny_tup (e := 143) (W := L) (m := 0) (ds := ms.map PyData.int) (fun d hd => by
    obtain ⟨x, hx, rfl⟩ := List.mem_map.mp hd
    exact ⟨nice_int (by decide) (h x hx), by simp [PyData.depth]⟩) (by rw [w]; exact hl)
  exact ⟨q.1.mono (Nat.le_refl _) (Nat.le_refl _) (by decide), q.2.mono (Nat.le_refl _) (Nat.le_refl _) (by decide)⟩
theorem tiny_pair {z r g : Int} {d : PyData} (hz : z.natAbs ≤ 1000) (hr : r.natAbs ≤ 1000) (hg : g.natAbs ≤ 1000) (t : Tiny 143 4000 20 d) : Tiny 143 4100 21 (.list [.tuple [.int z, .int r, .int g], d]) := by
  have t3 := tiny_three hz hr hg
  have a := t3.we
  have b := t.we
  have c := t3.de
  have e := t.de
  refine ⟨?_, by simp only [wt, wtAll] at *; omega, by simp only [PyData.depth, PyData.depthAll] at *; omega⟩
  simp only [nice, niceAll, Bool.and_true, Bool.and_eq_true]
  exact ⟨by simpa only [nice, niceAll, Bool.and_true, Bool.and_eq_true] using nice_three (e := 143) (by decide) hz hr hg, t.ni⟩
theorem len_tiny {d : PyData} (t : Tiny 143 4000 20 d) : ∀ ds, d = .tuple ds → ds.length ≤ 4000 := fun ds e => by
  have a := t.we
  rw [e] at a
  simp only [wt] at a
  have := wtAll_len ds
  omega
theorem tiny_bools (bs : List Bool) (hl : bs.length < 4000) : Tiny 143 4000 20 (.tuple (bs.map PyData.bool)) := by
  have w : wtAll (bs.map PyData.bool) = bs.length := by
    clear hl
    induction bs with
    | nil => rfl
    | cons x r ih => simp only [List.map_cons, wtAll, wt, ih, List.length_cons]; omega
  have q := tiny_tup (e := 143) (W := 4000) (m := 0) (ds := bs.map PyData.bool) (fun d hd => by
    obtain ⟨x, hx, rfl⟩ := List.mem_map.mp hd
    exact ⟨by simp [nice], by simp [PyData.depth]⟩) (by rw [w]; exact hl)
  exact q.1.mono (Nat.le_refl _) (Nat.le_refl _) (by decide)
theorem Deck.of_grow {K : PySem.W.Frag} {H J : Hp} {p : Addr} {n : Nat} (D : Deck K H p n) (e : Grow H J) : Deck K J p n := by
  obtain ⟨l, ns, c, r, hp, lp, hl, z⟩ := D
  exact ⟨l, ns, c, r, e.at hp, lp, e.seq hl, z⟩
theorem sqT_upd {K : PySem.W.Frag} {J : Hp} {q L : Addr} {xs ys : List V} {o : HO} (h : SqT K J q xs) (hl : J L = some (.lst ys)) : SqT K (upd J L o) q xs := by
  rcases h with (h | ⟨u, h⟩) | h
  · exact Or.inl (Or.inl (by rw [upd_ne (ne_of h hl (by intro z; cases z))]; exact h))
  · exact Or.inl (Or.inr ⟨u, by rw [upd_ne (ne_of h hl (by intro z; cases z))]; exact h⟩)
  · exact Or.inr h
theorem bools_dp {K : PySem.W.Frag} {H : Hp} : ∀ bs : List Bool, DpAll K H (bs.map V.bl) (bs.map PyData.bool)
  | [] => .nil
  | b :: bs => .cons (.bl b) (bools_dp bs)
def isOne (x : Int) : Bool := decide (V.int x = V.int 1)
theorem cut_last {xs : List V} {v : V} (h : xs.getLast? = some v) : cutV xs (some (-1)) none = [v] := by
  have h0 : 0 < xs.length := by
    cases xs with
    | nil => cases h
    | cons _ _ => simp
  have e : HT.sIx xs.length 0 (some (-1)) = xs.length - 1 := by
    show (if (-1 : Int) < 0 then ((-1 : Int) + (xs.length : Int)).toNat else min (-1 : Int).toNat xs.length) = xs.length - 1
    rw [if_pos (by decide)]
    omega
  unfold cutV
  rw [e, HT.sIx_none, show xs.length - (xs.length - 1) = 1 by omega]
  rw [List.getLast?_eq_getElem?] at h
  obtain ⟨hl, hv⟩ := List.getElem?_eq_some_iff.mp h
  rw [← List.getElem_cons_drop hl, hv]
  rfl

/-! ### whom a table asks: the program -/
def houseT (s r g : Int) : PyData := .tuple [.int s, .int r, .int g]
/-- the server that is asked; -1: none -/
def askN (s : Int) (deed : Str) (named asked : Int) : Option Int := if deed = "wait" then none else if deed = "named" then some named else some ((asked + 1).fmod s)
def optV : Option Int → V
  | none => .non
  | some i => .int i
def optD : Option Int → PyData
  | none => .none
  | some i => .int i
/-- the asker behind -/
def nextA (s : Int) (r : Row) (named asked name : Int) : Int × Int × Int :=
  match askN s r.1 named asked with
  | none => (r.2.1, named, asked)
  | some x => if name = asked then (r.2.2, name, x) else (r.2.1, name, x)
def askerD (a : Int × Int × Int) : PyData := .tuple [.int a.1, .int a.2.1, .int a.2.2]
theorem str_dec {x y : Str} : decide (V.str x = V.str y) = decide (x = y) := by
  by_cases h : x = y
  · rw [h, decide_eq_true rfl, decide_eq_true rfl]
  · rw [decide_eq_false h, decide_eq_false fun z => h (V.str.inj z)]
def sp_asks (K : PySem.W.Frag) : Sp := fun vs H Q _ => ∃ (h t a : V) (s r g : Int) (rs : List Row) (i : Nat) (named asked : Int) (row : Row), vs = [h, t, a] ∧ Dp K H h (houseT s r g) ∧ Dp K H t (tableD rs) ∧ Dp K H a (askerD ((i : Int), named, asked)) ∧
  rs[i]? = some row ∧ 0 < s ∧ Q (optV (askN s row.1 named asked)) H
def sp_behind (K : PySem.W.Frag) : Sp := fun vs H Q _ => ∃ (h t a : V) (s r g : Int) (rs : List Row) (i : Nat) (named asked name : Int) (row : Row), vs = [h, t, a, .int name] ∧ Dp K H h (houseT s r g) ∧ Dp K H t (tableD rs) ∧ Dp K H a (askerD ((i : Int), named, asked)) ∧
  rs[i]? = some row ∧ 0 < s ∧ ∀ q, H q = none → Q (.ref q) (upd H q (.tup [.int (nextA s row named asked name).1, .int (nextA s row named asked name).2.1, .int (nextA s row named asked name).2.2]))
section
variable {P : Program} {w : World} {K : PySem.W.Frag} {mg : Str → Option Value} {base : Heap}
theorem ok_asks (T : Txt K mg) : FnOk P w K mg base CX0 1 T.a_asks T.d_asks ["house", "table", "asker"] (sp_asks K) := by
  refine T.F_asks.ok sc_asks (fun vs H Q E h => ?_) (fun cdv A outer s H vs Q E hr h => ?_)
  · obtain ⟨_, _, _, _, _, _, _, _, _, _, _, rfl, _⟩ := h
    rfl
  · obtain ⟨h, t, a, z, r, g, rs, i, named, asked, row, rfl, hh, ht, ha, hrow, z0, k⟩ := h
    refine ⟨_, (pss_cons (ps_asg (pv 2) (pg_tup (by rfl) (pgs_cons (pg_name (i := 3) sc_asks.nd rfl (Or.inl rfl)) (pgs_cons (pg_name (i := 4) sc_asks.nd rfl (Or.inl rfl)) (pgs_cons (pg_name (i := 5) sc_asks.nd rfl (Or.inl rfl)) pgs_nil)))))
      (pss_cons (ps_set (i := 6) sc_asks.nd rfl (Or.inl rfl) (pe_ix ix_tup (pe_ix ix_tup (pv 1) (pv 3) (fun _ _ => rfl)) pe_int (fun _ _ => rfl)))
      (pss_cons (ps_if (pt_cmpR op_eq (pv 6) pe_str (nomark _))
        (pss_one (ps_ret pe_non))
        pss_nil)
      (pss_cons (ps_if (pt_cmpR op_eq (pv 6) pe_str (nomark _))
        (pss_one (ps_ret (pv 4)))
        pss_nil)
      (pss_one (ps_ret (pe_op op_modN (pe_op op_add (pv 5) pe_int) (pe_ix ix_tup (pv 0) pe_int (fun _ _ => rfl))))))))), ?_⟩
    obtain ⟨ah, rfl, sh⟩ := dp_three hh
    obtain ⟨at_, xs, rfl, st, hl, rw'⟩ := dp_table ht
    obtain ⟨aa, rfl, sa⟩ := dp_three ha
    obtain ⟨b, hb, sb⟩ := rw' i row hrow
    refine ⟨_, rfl, aa, _, rfl, sa, rfl, _, _, rfl, _, _, rfl, _, _, rfl, rfl, ?_⟩
    refine ⟨_, rfl, _, rfl, at_, xs, (i : Int), _, rfl, rfl, st, atI_nat hb, b, _, 0, _, rfl, rfl, sb, rfl, ?_⟩
    refine ⟨_, rfl, rfl, _, rfl, ?_⟩
    rw [str_dec]
    by_cases e1 : row.1 = "wait"
    · rw [decide_eq_true e1]
      have e : askN z row.1 named asked = none := if_pos e1
      rw [e] at k
      exact iteT k
    · rw [decide_eq_false e1]
      refine iteF ⟨_, rfl, rfl, _, rfl, ?_⟩
      rw [str_dec]
      by_cases e2 : row.1 = "named"
      · rw [decide_eq_true e2]
        have e : askN z row.1 named asked = some named := by
          unfold askN
          rw [if_neg e1, if_pos e2]
        rw [e] at k
        exact iteT ⟨_, rfl, k⟩
      · rw [decide_eq_false e2]
        have e : askN z row.1 named asked = some ((asked + 1).fmod z) := by
          unfold askN
          rw [if_neg e1, if_neg e2]
        rw [e] at k
        exact iteF ⟨_, rfl, _, _, rfl, rfl, _, rfl, ah, _, 0, _, rfl, rfl, sh, rfl, _, _, rfl, rfl, by omega, k⟩
theorem ok_behind (T : Txt K mg) : FnOk P w K mg base CX0 2 T.a_behind T.d_behind ["house", "table", "asker", "name"] (sp_behind K) := by
  have G_asks : FnOk P w K mg base CX0 1 T.a_asks T.d_asks ["house", "table", "asker"] (sp_asks K) := ok_asks T
  refine T.F_behind.ok sc_behind (fun vs H Q E h => ?_) (fun cdv A outer s H vs Q E hr h => ?_)
  · obtain ⟨_, _, _, _, _, _, _, _, _, _, _, _, rfl, _⟩ := h
    rfl
  · obtain ⟨h, t, a, z, r, g, rs, i, named, asked, name, row, rfl, hh, ht, ha, hrow, z0, k⟩ := h
    refine ⟨_, (pss_cons (ps_asg (pv 2) (pg_tup (by rfl) (pgs_cons (pg_name (i := 4) sc_behind.nd rfl (Or.inl rfl)) (pgs_cons (pg_name (i := 5) sc_behind.nd rfl (Or.inl rfl)) (pgs_cons (pg_name (i := 6) sc_behind.nd rfl (Or.inl rfl)) pgs_nil)))))
      (pss_cons (ps_asg (pe_ix ix_tup (pv 1) (pv 4) (fun _ _ => rfl)) (pg_tup (by rfl) (pgs_cons (pg_name (i := 7) sc_behind.nd rfl (Or.inl rfl)) (pgs_cons (pg_name (i := 8) sc_behind.nd rfl (Or.inl rfl)) (pgs_cons (pg_name (i := 9) sc_behind.nd rfl (Or.inl rfl)) pgs_nil)))))
      (pss_cons (ps_set (i := 10) sc_behind.nd rfl (Or.inl rfl) (pe_call G_asks (hr.mono (by omega)) (by rfl) T.g_asks T.F_asks.kp T.b_asks .nil pass0 (pa_cons (pv 0) (pa_cons (pv 1) (pa_cons (pv 2) pa_nil)))))
      (pss_cons (ps_if (pt_cmpR op_isN (pv 10) pe_non (nomark _))
        (pss_one (ps_ret (pe_tup (pa_cons (pv 8) (pa_cons (pv 5) (pa_cons (pv 6) pa_nil))))))
        pss_nil)
      (pss_cons (ps_if (pt_cmpR op_eq (pv 3) (pv 6) (nomark _))
        (pss_one (ps_ret (pe_tup (pa_cons (pv 9) (pa_cons (pv 3) (pa_cons (pv 10) pa_nil))))))
        pss_nil)
      (pss_one (ps_ret (pe_tup (pa_cons (pv 8) (pa_cons (pv 3) (pa_cons (pv 10) pa_nil))))))))))), ?_⟩
    obtain ⟨at_, xs, rfl, st, hl, rw'⟩ := dp_table ht
    obtain ⟨aa, rfl, sa⟩ := dp_three ha
    obtain ⟨b, hb, sb⟩ := rw' i row hrow
    refine ⟨_, rfl, aa, _, rfl, sa, rfl, _, _, rfl, _, _, rfl, _, _, rfl, rfl, ?_⟩
    refine ⟨_, rfl, _, rfl, at_, xs, (i : Int), _, rfl, rfl, st, atI_nat hb, b, _, rfl, sb, rfl, _, _, rfl, _, _, rfl, _, _, rfl, rfl, ?_⟩
    refine ⟨_, rfl, _, rfl, _, rfl, h, .ref at_, .ref aa, z, r, g, rs, i, named, asked, row, rfl, hh, ht, ha, hrow, z0, ?_⟩
    refine ⟨_, rfl, rfl, _, rfl, ?_⟩
    cases e : askN z row.1 named asked with
    | none =>
      have e2 : nextA z row named asked name = (row.2.1, named, asked) := by
        unfold nextA
        rw [e]
      rw [e2] at k
      refine iteT ⟨_, rfl, _, rfl, _, rfl, by show 3 ≤ sizeLine; decide, fun q hq => k q hq⟩
    | some x =>
      refine iteF ⟨_, rfl, _, rfl, rfl, _, rfl, ?_⟩
      by_cases en : name = asked
      · have e2 : nextA z row named asked name = (row.2.2, name, x) := by
          unfold nextA
          rw [e]
          exact if_pos en
        rw [e2] at k
        rw [decide_eq_true (by rw [en])]
        exact iteT ⟨_, rfl, _, rfl, _, rfl, by show 3 ≤ sizeLine; decide, fun q hq => k q hq⟩
      · have e2 : nextA z row named asked name = (row.2.1, name, x) := by
          unfold nextA
          rw [e]
          exact if_neg en
        rw [e2] at k
        rw [decide_eq_false fun q => en (V.int.inj q)]
        exact iteF ⟨_, rfl, _, rfl, _, rfl, by show 3 ≤ sizeLine; decide, fun q hq => k q hq⟩
end

/-! ### for how long the head must stay, by the program -/
def sp_holdof (K : PySem.W.Frag) (tb : Addr) : Sp := fun vs H Q _ => ∃ (th a : Addr) (z r g : Int) (ns : List Int), vs = [.ref th, .ref a] ∧ SqT K H th [.int z, .int r, .int g] ∧ SqT K H a (ns.map V.int) ∧ ns.length ≤ 4000 ∧ GxR.TabG H tb ∧
  ∀ J, Grow H J → Q (.int (holdI r ns)) J
section
variable {P : Program} {w : World} {K : PySem.W.Frag} {mg : Str → Option Value} {base : Heap}
theorem ok_holdof (T : Txt K mg) (TB : GxR.TabB base mg T.c_changes_of T.p_changes_of) : FnOk P w K mg base CX0 3 T.a_hold_of T.d_hold_of ["house", "course"] (sp_holdof K T.p_changes_of) := by
  have G_changes_of : FnOk P w K mg base CX0 2 T.a_changes_of T.d_changes_of ["course"] (sp_changes K T.p_changes_of) := ok_changes T TB
  refine T.F_hold_of.ok sc_hold_of (fun vs H Q E h => ?_) (fun cdv A outer s H vs Q E hr h => ?_)
  · obtain ⟨th, a, z, r, g, ns, rfl, _⟩ := h
    rfl
  · obtain ⟨th, a, z, r, g, ns, rfl, hth, hx, hl, hT, k⟩ := h
    refine ⟨_, (pss_cons (ps_set (i := 2) sc_hold_of.nd rfl (Or.inl rfl) (pe_call G_changes_of (hr.mono (by omega)) (by rfl) T.g_changes_of T.F_changes_of.kp T.b_changes_of .nil pass0 (pa_cons (pv 1) pa_nil)))
      (pss_cons (ps_if (pt_cmpR op_eq (pe_callB (id := "len") call_len_seq (by rfl) T.m_len (by decide +kernel) (pa_cons (pv 2) pa_nil)) pe_int (nomark _))
        (pss_one (ps_ret pe_int))
        pss_nil)
      (pss_cons (ps_set (i := 3) sc_hold_of.nd rfl (Or.inl rfl) (pe_op op_sub (pe_op op_sub (pe_callB (id := "len") call_len_seq (by rfl) T.m_len (by decide +kernel) (pa_cons (pv 1) pa_nil)) pe_int) (pe_ix ix_tup (pv 2) (pe_un un_neg pe_int) (fun _ _ => rfl))))
      (pss_one (ps_ret (pe_callB (id := "max") (call_max2 rfl) (by rfl) T.m_max (by decide +kernel) (pa_cons pe_int (pa_cons (pe_op op_sub (pe_op op_sub (pe_ix ix_tup (pv 0) pe_int (fun _ _ => rfl)) pe_int) (pv 3)) pa_nil)))))))), ?_⟩
    have ll : (ns.map V.int).length = ns.length := List.length_map ..
    refine ⟨_, rfl, a, ns, rfl, hx, Nat.le_trans hl (by decide), hT, fun t J G ht => ?_⟩
    have kJ := k J G
    have eh : holdI r ns = match (changesI ns).getLast? with
        | none => 0
        | some c => max 0 (r - 1 - ((ns.length : Int) - 1 - c)) := rfl
    rw [eh] at kJ
    generalize changesI ns = cs at ht kJ
    refine ⟨_, rfl, t, _, rfl, .inr (SqT.of ht), rfl, _, rfl, ?_⟩
    have lc : (cs.map V.int).length = cs.length := List.length_map ..
    rw [lc]
    cases ec : cs.getLast? with
    | none =>
      obtain rfl : cs = [] := by simpa using ec
      exact iteT kJ
    | some c =>
      rw [ec] at kJ
      have cne : cs.length ≠ 0 := fun z => by
        rw [List.eq_nil_of_length_eq_zero z] at ec
        cases ec
      rw [decide_eq_false (show ¬ V.int (cs.length : Int) = V.int 0 from fun e => cne (by have := V.int.inj e; omega))]
      have hl2 : (cs.map V.int).getLast? = some (.int c) := by rw [List.getLast?_map, ec]; rfl
      have hxJ := G.tup hx
      have hthJ := G.tup hth
      refine iteF ⟨_, rfl, a, _, rfl, .inr hxJ, _, _, rfl, rfl, _, rfl, 1, rfl, t, _, -1, _, rfl, rfl, SqT.of ht, atI_last hl2, _, _, rfl, rfl, ?_⟩
      refine ⟨_, rfl, th, _, 1, _, rfl, rfl, hthJ, rfl, _, _, rfl, rfl, _, rfl, _, _, rfl, rfl, _, _, rfl, ?_⟩
      rw [ll]
      have e4 : (if r - 1 - ((ns.length : Int) - 1 - c) > 0 then r - 1 - ((ns.length : Int) - 1 - c) else 0) = max 0 (r - 1 - ((ns.length : Int) - 1 - c)) := by split <;> omega
      show Q (V.int (if r - 1 - ((ns.length : Int) - 1 - c) > 0 then r - 1 - ((ns.length : Int) - 1 - c) else 0)) J
      rw [e4]
      exact kJ
end

/-! ### rows of heads -/
def extR (z : Nat) (rows : List (List Int)) : List (List Int) := rows.flatMap fun r => (List.range z).map fun h : Nat => r ++ [(h : Int)]
def allR (z : Nat) : Nat → List (List Int)
  | 0 => [[]]
  | n + 1 => extR z (allR z n)
def begR (z r g : Int) : List (List Int) := (allR z.toNat (g + 1).toNat).filter fun ns => keptB ns r
theorem mem_extR {z : Nat} {rows : List (List Int)} {x : List Int} : x ∈ extR z rows ↔ ∃ r ∈ rows, ∃ h : Nat, h < z ∧ x = r ++ [(h : Int)] := by
  unfold extR
  rw [List.mem_flatMap]
  constructor
  · rintro ⟨r, hr, hx⟩
    obtain ⟨h, hh, rfl⟩ := List.mem_map.mp hx
    exact ⟨r, hr, h, List.mem_range.mp hh, rfl⟩
  · rintro ⟨r, hr, h, hh, rfl⟩
    exact ⟨r, hr, List.mem_map.mpr ⟨h, List.mem_range.mpr hh, rfl⟩⟩
theorem allR_mem {z : Nat} : ∀ {n : Nat} {x : List Int}, x ∈ allR z n → x.length = n ∧ ∀ y ∈ x, 0 ≤ y ∧ y < (z : Int)
  | 0, x, hx => by
    rw [List.mem_singleton.mp hx]
    exact ⟨rfl, fun y hy => absurd hy List.not_mem_nil⟩
  | n + 1, x, hx => by
    obtain ⟨r, hr, h, hh, rfl⟩ := mem_extR.mp hx
    obtain ⟨a, b⟩ := allR_mem hr
    refine ⟨by rw [List.length_append, a]; rfl, fun y hy => ?_⟩
    rcases List.mem_append.mp hy with e | e
    · exact b y e
    · rw [List.mem_singleton.mp e]; omega
theorem extR_len (z : Nat) : ∀ rows : List (List Int), (extR z rows).length = rows.length * z
  | [] => by simp [extR]
  | r :: rows => by
    have ih := extR_len z rows
    unfold extR at ih ⊢
    rw [List.flatMap_cons, List.length_append, List.length_map, List.length_range, ih, List.length_cons, Nat.succ_mul]
    omega
theorem allR_len (z : Nat) : ∀ n : Nat, (allR z n).length = z ^ n
  | 0 => rfl
  | n + 1 => by
    show (extR z (allR z n)).length = _
    rw [extR_len, allR_len z n, Nat.pow_succ]
theorem allR_small {z r g : Int} (h : HouseOf 81 z r g) : ∀ n : Nat, n ≤ (g + 1).toNat → (allR z.toNat n).length ≤ 81 := fun n hn => by
  obtain ⟨z2, z4, r1, r6, g0, g3, hp⟩ := h
  rw [allR_len]
  have e : ((z.toNat : Int)) = z := Int.toNat_of_nonneg (by omega)
  have p : z.toNat ^ (g + 1).toNat ≤ 81 := by
    have : ((z.toNat ^ (g + 1).toNat : Nat) : Int) = z ^ (g + 1).toNat := by rw [Int.natCast_pow, e]
    omega
  exact Nat.le_trans (Nat.pow_le_pow_right (by omega) hn) p
theorem extR_append (z : Nat) (a b : List (List Int)) : extR z (a ++ b) = extR z a ++ extR z b := by
  unfold extR
  rw [List.flatMap_append]
/-- the values are tuples of these rows -/
abbrev RowsAt (K : PySem.W.Frag) (J : Hp) (us : List V) (rows : List (List Int)) : Prop := Paired (fun (v : V) (ns : List Int) => ∃ q, v = .ref q ∧ SqT K J q (ns.map V.int)) us rows
theorem RowsAt.same {K : PySem.W.Frag} {H J : Hp} {us : List V} {rows : List (List Int)} (h : RowsAt K H us rows) (S : Same H J) : RowsAt K J us rows := Paired.mapP h fun _ _ ⟨q, e, a⟩ => ⟨q, e, sameT S a⟩
theorem RowsAt.grow {K : PySem.W.Frag} {H J : Hp} {us : List V} {rows : List (List Int)} (h : RowsAt K H us rows) (S : Grow H J) : RowsAt K J us rows := Paired.mapP h fun _ _ ⟨q, e, a⟩ => ⟨q, e, S.tup a⟩
theorem RowsAt.put {K : PySem.W.Frag} {J : Hp} {D : Addr} {us : List V} {rows : List (List Int)} {ys : List V} {o : HO} (h : RowsAt K J us rows) (hD : J D = some (.lst ys)) : RowsAt K (upd J D o) us rows := Paired.mapP h fun _ _ ⟨q, e, a⟩ => ⟨q, e, sqT_upd a hD⟩
theorem paired_length {α β : Type} {R : α → β → Prop} {xs : List α} {ys : List β} (h : Paired R xs ys) : xs.length = ys.length := by
  induction h with
  | nil => rfl
  | cons _ _ ih => rw [List.length_cons, List.length_cons, ih]
theorem paired_put {α β : Type} {R : α → β → Prop} {xs : List α} {ys : List β} (h : Paired R xs ys) {x : α} {y : β} (r : R x y) : Paired R (xs ++ [x]) (ys ++ [y]) := by
  induction h with
  | nil => exact .cons r .nil
  | cons a _ ih => exact .cons a ih
theorem paired_nth {α β : Type} {R : α → β → Prop} {xs : List α} {ys : List β} (h : Paired R xs ys) : ∀ {i : Nat} {x : α}, xs[i]? = some x → ∃ y, ys[i]? = some y ∧ R x y := by
  induction h with
  | nil => intro i x e; simp at e
  | cons a _ ih =>
    intro i x e
    cases i with
    | zero => cases e; exact ⟨_, rfl, a⟩
    | succ i => exact ih e
theorem freshS {H J : Hp} {q : Addr} (S : Same H J) (h : J q = none) : H q = none := by
  cases e : H q with
  | none => rfl
  | some o =>
    have := S _ _ e
    rw [h] at this
    cases this
theorem writeS {q : Addr} {G J : Hp} {o : HO} (k : Same G J) (h : G q = none) : Same G (upd J q o) := fun b u e => by
  rw [upd_ne (ne_of_none e h)]
  exact k b u e
theorem whole_all {z : Int} : ∀ {ns : List Int}, (∀ x ∈ ns, 0 ≤ x ∧ x < z) → (ns.map PyData.int).all (wholeD 0 (z - 1)) = true ∧ (ns.map PyData.int).map intD = ns
  | [], _ => ⟨rfl, rfl⟩
  | x :: ns, h => by
    obtain ⟨a, b⟩ := whole_all (ns := ns) fun y hy => h y (List.mem_cons_of_mem _ hy)
    obtain ⟨x0, x1⟩ := h x List.mem_cons_self
    refine ⟨?_, by rw [List.map_cons, List.map_cons, b]; rfl⟩
    rw [List.map_cons, List.all_cons, a, Bool.and_true]
    simp only [wholeD, Bool.and_eq_true, decide_eq_true_eq]
    omega
/-- such a row is a course just if its rests are kept -/
theorem course_row {z r : Int} {ns : List Int} (hz : ∀ x ∈ ns, 0 ≤ x ∧ x < z) (ne : ns ≠ []) : courseD z r (.tuple (ns.map PyData.int)) = keptB ns r := by
  obtain ⟨a, b⟩ := whole_all hz
  have e : (ns.map PyData.int).isEmpty = false := by
    cases ns with
    | nil => exact absurd rfl ne
    | cons _ _ => rfl
  simp only [courseD, a, b, e, Bool.not_false, Bool.true_and]

/-! ### the beginnings of courses, by the program -/
def sp_begin (K : PySem.W.Frag) (tb : Addr) : Sp := fun vs H Q _ => ∃ (th : Addr) (z r g : Int), vs = [.ref th] ∧ SqT K H th [.int z, .int r, .int g] ∧ HouseOf 81 z r g ∧ GxR.TabG H tb ∧
  ∀ (a : Addr) (us : List V) (J : Hp), Grow H J → H a = none → J a = some (.lst us) → RowsAt K J us (begR z r g) → Q (.ref a) J
section
variable {P : Program} {w : World} {K : PySem.W.Frag} {mg : Str → Option Value} {base : Heap}
theorem ok_begin (T : Txt K mg) (TB : GxR.TabB base mg T.c_changes_of T.p_changes_of) : FnOk P w K mg base CX0 4 T.a_beginnings T.d_beginnings ["house"] (sp_begin K T.p_changes_of) := by
  have G_is_course : FnOk P w K mg base CX0 3 T.a_is_course T.d_is_course ["house", "value"] (sp_iscourse K T.p_changes_of) := ok_iscourse T TB
  refine T.F_beginnings.ok sc_beginnings (fun vs H Q E h => ?_) (fun cdv A outer s H vs Q E hr h => ?_)
  · obtain ⟨th, z, r, g, rfl, _⟩ := h
    rfl
  · obtain ⟨th, z, r, g, rfl, hth, hz, hT, k⟩ := h
    refine ⟨_, (pss_cons (ps_asg (pv 0) (pg_tup (by rfl) (pgs_cons (pg_name (i := 1) sc_beginnings.nd rfl (Or.inr rfl)) (pgs_cons (pg_name (i := 2) sc_beginnings.nd rfl (Or.inl rfl)) (pgs_cons (pg_name (i := 3) sc_beginnings.nd rfl (Or.inl rfl)) pgs_nil)))))
      (pss_cons (ps_set (i := 4) sc_beginnings.nd rfl (Or.inl rfl) (pe_lst (pa_cons (pe_tup pa_nil) pa_nil)))
      (pss_cons (ps_for PassesOwn.never rfl (pi_range1 (by rfl) T.m_range (pa_cons (pe_op op_add (pv 3) pe_int) pa_nil)) (pg_name (i := 2) sc_beginnings.nd rfl (Or.inl rfl))
        (pss_one (ps_setLc2 (i := 4) (own := [("row", 5), ("head", 6)]) (vs1 := [6]) (g := gName 5) (g1 := gName 6) (by rfl) sc_beginnings.nd rfl rfl (sw_true rfl rfl rfl (by decide +kernel)) (pi_list (pv 4)) (blkOk_by (own := [("row", 5), ("head", 6)]) (N := ["house", "servers", "_", "lag", "rows", "row", "head"]) (sc := defScope s_beginnings) (by decide +kernel)) (by decide) (fun _ _ _ _ _ => (pg_name (i := 5) sc_beginnings.nd rfl (Or.inl rfl))) (fun _ _ _ _ _ => pts_nil) (fun _ _ _ _ _ => (pi_range1 (by rfl) T.m_range (pa_cons (pv 1) pa_nil))) (fun _ _ _ _ _ => (pg_name (i := 6) sc_beginnings.nd rfl (Or.inl rfl))) (fun _ _ _ _ _ => pts_nil) (fun _ _ _ _ _ => (pe_op (catSK K rfl) (pv 5) (pe_tup (pa_cons (pv 6) pa_nil)))))))
      (pss_one (ps_ret (pe_lc (own := [("row", 5)]) (g := gName 5) (by rfl) sc_beginnings.nd (pi_list (pv 4)) (blkOk_by (own := [("row", 5)]) (N := ["house", "servers", "_", "lag", "rows", "row", "head"]) (sc := defScope s_beginnings) (by decide +kernel)) (fun _ _ _ _ _ => (pg_name (i := 5) sc_beginnings.nd rfl (Or.inl rfl))) (fun _ _ _ _ _ => (pts_one (pt_val (pe_call G_is_course (hr.mono (by omega)) (by rfl) T.g_is_course T.F_is_course.kp T.b_is_course .nil pass0 (pa_cons (pv 0) (pa_cons (pv 5) pa_nil)))))) (fun _ _ _ _ _ => (pv 5)))))))), ?_⟩
    obtain ⟨z2, z4, r1, r6, g0, g3, _⟩ := id hz
    refine ⟨_, rfl, th, _, rfl, hth, rfl, _, _, rfl, _, _, rfl, _, _, rfl, rfl, ?_⟩
    refine ⟨by show 0 ≤ sizeLine; decide, fun q0 h0 => ⟨by show 1 ≤ sizeLine; decide, fun a0 ha0 => ?_⟩⟩
    have S1 : Same H (upd (upd H q0 (.tup [])) a0 (.lst [.ref q0])) := (same_new h0).trans (same_new ha0)
    have A0 : (upd (upd H q0 (.tup [])) a0 (.lst [.ref q0])) a0 = some (.lst [.ref q0]) := upd_same
    have Q0 : (upd (upd H q0 (.tup [])) a0 (.lst [.ref q0])) q0 = some (.tup []) := same_new ha0 _ _ upd_same
    have Ha0 : H a0 = none := freshS (same_new h0) ha0
    show gName 4 (V.ref a0) _ (upd (upd H q0 (.tup [])) a0 (.lst [.ref q0])) _
    generalize upd (upd H q0 (.tup [])) a0 (.lst [.ref q0]) = J0 at S1 A0 Q0 ⊢
    refine ⟨_, rfl, _, _, rfl, rfl, _, rfl, by omega, by omega, for_range (lo := 0) (n := (g + 1).toNat) (fun i σ J => ∃ (y2 : Option V) (R : Addr) (us : List V), σ = [some (.ref th), some (.int z), y2, some (.int g), some (.ref R), none, none] ∧ H R = none ∧ Same H J ∧ J R = some (.lst us) ∧ RowsAt K J us (allR z.toNat i)) ⟨_, a0, _, rfl, Ha0, S1, A0, .cons ⟨q0, rfl, SqT.of Q0⟩ .nil⟩ ?_ ?_⟩
    · rintro i σ J hi ⟨y2, R, us, rfl, HR, S, hR, pr⟩
      have l81 := allR_small hz i (by omega)
      have l82 := allR_small hz (i + 1) (by omega)
      have lus := paired_length pr
      obtain ⟨rows, erows⟩ : ∃ rows, allR z.toNat i = rows := ⟨_, rfl⟩
      have e1 : allR z.toNat (i + 1) = extR z.toNat rows := by rw [← erows]; rfl
      rw [e1] at l82
      rw [erows] at pr l81 lus
      refine ⟨_, rfl, R, rfl, ⟨_, SqL.of hR⟩, fun D hD => ?_⟩
      refine turns_it (walk_list (K := K) (a := R) (xs := us)) (fun k L => ∃ vs : List V, Same J L ∧ L D = some (.lst vs) ∧ RowsAt K L vs (extR z.toNat (rows.take k))) ⟨[], same_new hD, upd_same, .nil⟩ (fun k L _ ⟨_, SL, _⟩ => SqL.of (SL _ _ hR)) ?_ ?_
      · rintro m v L L' hm ⟨vs, SL, hL, pv⟩ ⟨rfl, hv⟩
        obtain ⟨row, hrow, q, rfl, sq⟩ := paired_nth pr hv
        have hlt : m < rows.length := by omega
        have erow : rows.take (m + 1) = rows.take m ++ [row] := by rw [List.take_add_one, hrow]; rfl
        have sub : (extR z.toNat (rows.take m)).length + z.toNat ≤ 81 := by
          have a := extR_len z.toNat (rows.take m)
          have b := extR_len z.toNat rows
          have c : (rows.take m).length = m := by rw [List.length_take]; omega
          rw [a, c]
          rw [b] at l82
          have d : (m + 1) * z.toNat ≤ rows.length * z.toNat := Nat.mul_le_mul_right _ (by omega)
          rw [Nat.succ_mul] at d
          omega
        refine ⟨rfl, ?_⟩
        unfold tYes
        refine iteT ⟨_, rfl, z, rfl, by omega, by omega, ?_⟩
        refine turns_it (walk_range (lo := 0) (n := z.toNat)) (fun j M => ∃ ws : List V, Same J M ∧ M D = some (.lst ws) ∧ RowsAt K M ws (extR z.toNat (rows.take m) ++ (List.range j).map fun h : Nat => row ++ [(h : Int)])) ⟨vs, SL, hL, by rw [List.range_zero, List.map_nil, List.append_nil]; exact pv⟩ (fun _ _ _ _ => trivial) ?_ ?_
        · rintro j x M M' hj ⟨ws, SM, hM, pw⟩ ⟨rfl, rfl⟩
          have lw := paired_length pw
          rw [List.length_append, List.length_map, List.length_range] at lw
          refine ⟨rfl, ?_⟩
          refine iteT ⟨_, rfl, _, rfl, by show 1 ≤ sizeLine; decide, fun t ht => ?_⟩
          have s1 : Same M' (upd M' t (.tup [.int (0 + (j : Int))])) := same_new ht
          have rl := (allR_mem (z := z.toNat) (n := i) (x := row) (by rw [erows]; exact List.mem_of_getElem? hrow)).1
          refine ⟨q, t, _, _, rfl, rfl, sameT (SM.trans s1) sq, SqT.of upd_same, Nat.le_trans (by rw [List.length_map, rl, List.length_singleton]; omega : _ ≤ 100) (by decide), fun t2 M2 e2 S2 => ?_⟩
          have S3 := SM.trans (s1.trans S2)
          have hM2 := (s1.trans S2) _ _ hM
          refine ⟨ws, hM2, Nat.lt_of_lt_of_le (by omega : ws.length < 100) (by decide), ws ++ [.ref t2], writeS S3 hD, upd_same, ?_⟩
          have e3 : extR z.toNat (rows.take m) ++ (List.range (j + 1)).map (fun h : Nat => row ++ [(h : Int)]) = (extR z.toNat (rows.take m) ++ (List.range j).map fun h : Nat => row ++ [(h : Int)]) ++ [row ++ [(j : Int)]] := by
            rw [List.range_succ, List.map_append, List.append_assoc]
            rfl
          rw [e3]
          refine paired_put ((pw.same (s1.trans S2)).put hM2) ⟨t2, rfl, sqT_upd ?_ hM2⟩
          have e5 : SqT K M2 t2 (row.map V.int ++ [V.int (0 + (j : Int))]) := e2
          rw [Int.zero_add] at e5
          rw [List.map_append]
          exact e5
        · rintro M ⟨ws, SM, hM, pw⟩
          refine ⟨ws, SM, hM, ?_⟩
          rw [erow, extR_append]
          have e4 : extR z.toNat [row] = (List.range z.toNat).map fun h : Nat => row ++ [(h : Int)] := by unfold extR; simp
          rw [e4]
          exact pw
      · rintro L ⟨vs, SL, hL, pv⟩
        rw [lus, List.take_length] at pv
        exact ⟨_, D, vs, rfl, freshS S hD, S.trans SL, hL, by rw [e1]; exact pv⟩
    · rintro σ J ⟨y2, R, us, rfl, HR, S, hR, pr⟩
      have hall : ∀ row ∈ allR z.toNat (g + 1).toNat, row.length = (g + 1).toNat ∧ ∀ x ∈ row, 0 ≤ x ∧ x < z := fun row hrow => by
        obtain ⟨a, b⟩ := allR_mem hrow
        exact ⟨a, fun x hx => by have := b x hx; omega⟩
      have l81 := allR_small hz _ (Nat.le_refl _)
      have lus := paired_length pr
      have eB : begR z r g = (allR z.toNat (g + 1).toNat).filter fun ns => keptB ns r := rfl
      rw [eB] at k
      generalize allR z.toNat (g + 1).toNat = rows at pr hall l81 lus k
      have hthJ := sameT S hth
      have hTJ := (Tabs.of_same S).tab hT
      refine ⟨_, rfl, R, rfl, ⟨_, SqL.of hR⟩, fun D hD => ?_⟩
      refine lc_list (K := K) (a := R) (xs := us) (fun i L => ∃ vs : List V, Grow J L ∧ L D = some (.lst vs) ∧ vs.length ≤ i ∧ RowsAt K L vs ((rows.take i).filter fun ns => keptB ns r)) ⟨[], Grow.new hD, upd_same, Nat.le_refl _, .nil⟩ (fun i L _ ⟨_, G, _⟩ => G.seq (SqL.of hR)) ?_ ?_
      · rintro i x L hi ⟨vs, G, hL, lv, pv⟩
        obtain ⟨row, hrow, q, rfl, sq⟩ := paired_nth pr hi
        have hil : i < us.length := (List.getElem?_eq_some_iff.mp hi).1
        obtain ⟨rl, rz⟩ := hall row (List.mem_of_getElem? hrow)
        have rne : row ≠ [] := fun e => by rw [e, List.length_nil] at rl; omega
        have ec : courseD z r (.tuple (row.map PyData.int)) = keptB row r := course_row rz rne
        refine ⟨rfl, ?_⟩
        refine ⟨_, rfl, _, rfl, th, .ref q, z, r, g, .tuple (row.map PyData.int), rfl, G.tup hthJ, .tup (G.tup sq) (ints_dp row), fun ds e => ?_, G.t.tab hTJ, fun L' G' => ⟨_, rfl, ?_⟩⟩
        · cases e
          rw [List.length_map, rl]
          omega
        rw [ec]
        have e6 : (rows.take (i + 1)).filter (fun ns => keptB ns r) = (rows.take i).filter (fun ns => keptB ns r) ++ if keptB row r = true then [row] else [] := by
          rw [List.take_add_one, hrow, List.filter_append]
          simp only [Option.toList_some, List.filter_cons, List.filter_nil]
        have hL' := G'.at hL
        refine ite2 (fun hk => ?_) (fun hk => ?_)
        · rw [if_pos hk] at e6
          refine ⟨_, rfl, vs, hL', Nat.lt_of_lt_of_le (by omega : vs.length < 100) (by decide), vs ++ [.ref q], (G.trans G').write hD, upd_same, by rw [List.length_append, List.length_singleton]; omega, ?_⟩
          rw [e6]
          exact paired_put ((pv.grow G').put hL') ⟨q, rfl, sqT_upd ((G.trans G').tup sq) hL'⟩
        · rw [if_neg hk, List.append_nil] at e6
          exact ⟨vs, G.trans G', hL', by omega, by rw [e6]; exact pv.grow G'⟩
      · rintro L ⟨vs, G, hL, lv, pv⟩
        rw [lus, List.take_length] at pv
        exact k D vs L ((Grow.of_same S).trans G) (freshS S hD) hL pv
end

/-! ### data stays as the state grows; as a list is changed -/
mutual
theorem growDp {K : PySem.W.Frag} {H J : Hp} (g : Grow H J) : ∀ (d : PyData) (v : V), Dp K H v d → Dp K J v d
  | .none, _, h => by cases h; exact .non
  | .bool b, _, h => by cases h; exact .bl b
  | .int i, _, h => by cases h; exact .int i
  | .str x, _, h => by cases h; exact .str x
  | .list ds, _, h => by
    cases h with
    | lst h1 h2 => exact .lst (g.seq h1) (growDpAll g ds _ h2)
  | .tuple ds, _, h => by
    cases h with
    | tup h1 h2 => exact .tup (g.tup h1) (growDpAll g ds _ h2)
  | .dict _, _, h => by cases h
theorem growDpAll {K : PySem.W.Frag} {H J : Hp} (g : Grow H J) : ∀ (ds : List PyData) (vs : List V), DpAll K H vs ds → DpAll K J vs ds
  | [], _, h => by cases h; exact .nil
  | d :: ds, _, h => by
    cases h with
    | cons h1 h2 => exact .cons (growDp g d _ h1) (growDpAll g ds _ h2)
end
mutual
theorem keyPut {K : PySem.W.Frag} {J : Hp} {D : Addr} {ys : List V} {o : HO} (hD : J D = some (.lst ys)) : ∀ (d : PyData) (v : V), isKeyD d = true → Dp K J v d → Dp K (upd J D o) v d
  | .int i, _, _, h => by cases h; exact .int i
  | .tuple ds, _, q, h => by
    cases h with
    | tup h1 h2 => exact .tup (sqT_upd h1 hD) (keyPutAll hD ds _ q h2)
  | .none, _, _, h => by cases h; exact .non
  | .bool _, _, q, _ => by cases q
  | .str _, _, q, _ => by cases q
  | .list _, _, q, _ => by cases q
  | .dict _, _, q, _ => by cases q
theorem keyPutAll {K : PySem.W.Frag} {J : Hp} {D : Addr} {ys : List V} {o : HO} (hD : J D = some (.lst ys)) : ∀ (ds : List PyData) (vs : List V), isKeyDs ds = true → DpAll K J vs ds → DpAll K (upd J D o) vs ds
  | [], _, _, h => by cases h; exact .nil
  | d :: ds, _, q, h => by
    simp only [isKeyDs, Bool.and_eq_true] at q
    cases h with
    | cons h1 h2 => exact .cons (keyPut hD d _ q.1 h1) (keyPutAll hD ds _ q.2 h2)
end
theorem keys_all {ds : List PyData} (h : ∀ d ∈ ds, isKeyD d = true) : isKeyDs ds = true := by
  induction ds with
  | nil => rfl
  | cons d ds ih =>
    simp only [isKeyDs, Bool.and_eq_true]
    exact ⟨h d List.mem_cons_self, ih fun x hx => h x (List.mem_cons_of_mem _ hx)⟩
theorem key_ints (ns : List Int) : isKeyDs (ns.map PyData.int) = true := keys_all fun d hd => by
  obtain ⟨x, _, rfl⟩ := List.mem_map.mp hd
  rfl

/-! ### the first standings, by the program -/
def standD (hs : List Int) (u : Int) : PyData := .tuple [.tuple (hs.map PyData.int), .int u, .tuple [.int 0, .int 0, .int (-1)]]
def firstsD (z r g : Int) : List PyData := ((begR z r g).map fun ns => standD ns.reverse (holdI r ns)).mergeSort (PySem.W.dataLe false id)
theorem stand_key (hs : List Int) (u : Int) : isKeyD (standD hs u) = true := by
  simp only [standD, isKeyD, isKeyDs, key_ints, Bool.and_self]
theorem ints_deepD (hs : List Int) : PyData.depthAll (hs.map PyData.int) = 0 := ints_deep hs
theorem stand_deep (hs : List Int) (u : Int) : (standD hs u).depth ≤ 3 := by
  simp only [standD, PyData.depth, PyData.depthAll, ints_deepD]
  decide
theorem ints_alike : ∀ (xs ys : List Int), xs.length = ys.length → PySem.W.alikeAll (xs.map PyData.int) (ys.map PyData.int) = true
  | [], [], _ => by simp [PySem.W.alikeAll]
  | [], _ :: _, h => by simp at h
  | _ :: _, [], h => by simp at h
  | x :: xs, y :: ys, h => by
    have ih := ints_alike xs ys (by simpa using h)
    simp [PySem.W.alikeAll, PySem.W.alike, ih]
theorem heads_rev {ns : List Int} {g : Nat} (h : ns.length = g + 1) : headsI ns g g = ns.reverse := by
  refine List.ext_getElem? fun i => ?_
  unfold headsI
  rw [List.getElem?_map]
  by_cases c : i < g + 1
  · rw [List.getElem?_range c, List.getElem?_reverse (by omega)]
    show some (ns.getD (g - i) 0) = _
    rw [List.getD_eq_getElem?_getD, show ns.length - 1 - i = g - i by omega, List.getElem?_eq_getElem (by omega)]
    rfl
  · rw [List.getElem?_eq_none (by rw [List.length_range]; omega), List.getElem?_eq_none (by rw [List.length_reverse]; omega)]
    rfl
def sp_firsts (K : PySem.W.Frag) (tb tb2 : Addr) : Sp := fun vs H Q _ => ∃ (th : Addr) (z r g : Int), vs = [.ref th] ∧ SqT K H th [.int z, .int r, .int g] ∧ HouseOf 81 z r g ∧ GxR.TabG H tb ∧ GxR.TabG H tb2 ∧
  ∀ (t : Addr) (us : List V) (J : Hp), Grow H J → J t = some (.tup us) → DpAll K J us (firstsD z r g) → Q (.ref t) J
section
variable {P : Program} {w : World} {K : PySem.W.Frag} {mg : Str → Option Value} {base : Heap}
theorem ok_firsts (T : Txt K mg) (TB : GxR.TabB base mg T.c_changes_of T.p_changes_of) (TB2 : GxR.TabB base mg T.c_heads_back T.p_heads_back) : FnOk P w K mg base CX0 5 T.a_firsts T.d_firsts ["house"] (sp_firsts K T.p_changes_of T.p_heads_back) := by
  have G_heads_back : FnOk P w K mg base CX0 2 T.a_heads_back T.d_heads_back ["house", "course", "moment"] (sp_heads K T.p_heads_back) := ok_heads T TB2
  have G_hold_of : FnOk P w K mg base CX0 3 T.a_hold_of T.d_hold_of ["house", "course"] (sp_holdof K T.p_changes_of) := ok_holdof T TB
  have G_beginnings : FnOk P w K mg base CX0 4 T.a_beginnings T.d_beginnings ["house"] (sp_begin K T.p_changes_of) := ok_begin T TB
  refine T.F_firsts.ok sc_firsts (fun vs H Q E h => ?_) (fun cdv A outer s H vs Q E hr h => ?_)
  · obtain ⟨th, z, r, g, rfl, _⟩ := h
    rfl
  · obtain ⟨th, z, r, g, rfl, hth, hz, hT, hT2, k⟩ := h
    refine ⟨_, (pss_cons (ps_set (i := 1) sc_firsts.nd rfl (Or.inr rfl) (pe_ix ix_tup (pv 0) pe_int (fun _ _ => rfl)))
      (pss_one (ps_ret (pe_callTy (T := "tuple") call_tuple_of (by rfl) T.m_tuple (by decide +kernel) (pa_cons (pe_callB (id := "sorted") (cr_sortD (hu64 hr)) (by rfl) T.m_sorted (by decide +kernel) (pa_cons (pe_lc (own := [("course", 2)]) (g := gName 2) (by rfl) sc_firsts.nd (pi_list (pe_call G_beginnings (hr.mono (by omega)) (by rfl) T.g_beginnings T.F_beginnings.kp T.b_beginnings .nil pass0 (pa_cons (pv 0) pa_nil))) (blkOk_by (own := [("course", 2)]) (N := ["house", "lag", "course"]) (sc := defScope s_firsts) (by decide +kernel)) (fun _ _ _ _ _ => (pg_name (i := 2) sc_firsts.nd rfl (Or.inl rfl))) (fun _ _ _ _ _ => pts_nil) (fun _ _ _ _ _ => (pe_tup (pa_cons (pe_call G_heads_back (hr.mono (by omega)) (by rfl) T.g_heads_back T.F_heads_back.kp T.b_heads_back .nil pass0 (pa_cons (pv 0) (pa_cons (pv 2) (pa_cons (pv 1) pa_nil)))) (pa_cons (pe_call G_hold_of (hr.mono (by omega)) (by rfl) T.g_hold_of T.F_hold_of.kp T.b_hold_of .nil pass0 (pa_cons (pv 0) (pa_cons (pv 2) pa_nil))) (pa_cons (pe_glob (v := .ref T.a_NEW_ASKER) rfl T.g_NEW_ASKER rfl) pa_nil)))))) pa_nil)) pa_nil))))), ?_⟩
    obtain ⟨z2, z4, r1, r6, g0, g3, _⟩ := id hz
    obtain ⟨gn, rfl⟩ : ∃ n : Nat, g = (n : Int) := ⟨g.toNat, (Int.toNat_of_nonneg g0).symm⟩
    refine ⟨_, rfl, th, _, 2, _, rfl, rfl, hth, rfl, ?_⟩
    refine ⟨_, rfl, th, z, r, (gn : Int), rfl, hth, hz, hT, fun a us J G Ha hJa pr => ?_⟩
    have hB : ∀ row ∈ begR z r (gn : Int), row.length = gn + 1 := fun row hrow => by
      have := (allR_mem (List.mem_filter.mp hrow).1).1
      omega
    have lB : (begR z r (gn : Int)).length ≤ 81 := Nat.le_trans (List.length_filter_le _ _) (allR_small hz _ (Nat.le_refl _))
    have eF : firstsD z r (gn : Int) = ((begR z r (gn : Int)).map fun ns => standD ns.reverse (holdI r ns)).mergeSort (PySem.W.dataLe false id) := rfl
    rw [eF] at k
    generalize begR z r (gn : Int) = rows at pr hB lB k
    have lus := paired_length pr
    refine ⟨a, rfl, ⟨_, SqL.of hJa⟩, fun D hD => ?_⟩
    refine lc_list (K := K) (a := a) (xs := us) (fun i L => ∃ vs : List V, Grow J L ∧ L D = some (.lst vs) ∧ vs.length = i ∧ DpAll K L vs ((rows.take i).map fun ns => standD ns.reverse (holdI r ns))) ⟨[], Grow.new hD, upd_same, rfl, .nil⟩ (fun i L _ ⟨_, GL, _⟩ => GL.seq (SqL.of hJa)) ?_ ?_
    · rintro i x L hi ⟨vs, GL, hL, lv, dv⟩
      obtain ⟨row, hrow, q, rfl, sq⟩ := paired_nth pr hi
      have hil : i < us.length := (List.getElem?_eq_some_iff.mp hi).1
      have rl := hB row (List.mem_of_getElem? hrow)
      have GH := G.trans GL
      refine ⟨rfl, ?_⟩
      unfold tYes
      refine iteT ?_
      refine ⟨_, rfl, _, rfl, _, rfl, th, q, z, r, gn, gn, row, rfl, GH.tup hth, GL.tup sq, Nat.le_refl _, by omega, by omega, GH.t.tab hT2, fun t L1 G1 ht => ?_⟩
      have GH1 := GH.trans G1
      refine ⟨_, rfl, _, rfl, th, q, z, r, (gn : Int), row, rfl, GH1.tup hth, (GL.trans G1).tup sq, by omega, GH1.t.tab hT, fun L2 G2 => ?_⟩
      refine ⟨by show 3 ≤ sizeLine; decide, fun t3 ht3 => ?_⟩
      have ht2 := G2.at ht
      rw [heads_rev rl] at ht2
      have G3 : Grow L2 (upd L2 t3 (.tup [.ref t, .int (holdI r row), .ref T.a_NEW_ASKER])) := Grow.new ht3
      have hT3 : (upd L2 t3 (.tup [.ref t, .int (holdI r row), .ref T.a_NEW_ASKER])) t3 = some (.tup [.ref t, .int (holdI r row), .ref T.a_NEW_ASKER]) := upd_same
      have ht3' := G3.at ht2
      show ∃ acc, (upd L2 t3 (.tup [.ref t, .int (holdI r row), .ref T.a_NEW_ASKER])) D = _ ∧ _
      generalize upd L2 t3 (.tup [.ref t, .int (holdI r row), .ref T.a_NEW_ASKER]) = L3 at G3 hT3 ht3' ⊢
      have GL3 := (G1.trans G2).trans G3
      have hL3 := GL3.at hL
      have eT : (rows.take (i + 1)).map (fun ns => standD ns.reverse (holdI r ns)) = (rows.take i).map (fun ns => standD ns.reverse (holdI r ns)) ++ [standD row.reverse (holdI r row)] := by
        rw [List.take_add_one, hrow, List.map_append]
        rfl
      have dn : Dp K L3 (.ref t3) (standD row.reverse (holdI r row)) := .tup (SqT.of hT3) (.cons (.tup (SqT.of ht3') (ints_dp _)) (.cons (.int _) (.cons (.tup (sq_any T.q_NEW_ASKER) (.cons (.int _) (.cons (.int _) (.cons (.int _) .nil)))) .nil)))
      refine ⟨vs, hL3, Nat.lt_of_lt_of_le (by omega : vs.length < 100) (by decide), vs ++ [.ref t3], (GL.trans GL3).write hD, upd_same, by rw [List.length_append, List.length_singleton, lv], ?_⟩
      rw [eT]
      refine dpAll_append (keyPutAll hL3 _ _ (keys_all fun d hd => ?_) (growDpAll GL3 _ _ dv)) (.cons (keyPut hL3 _ _ (stand_key _ _) dn) .nil)
      obtain ⟨ns, _, rfl⟩ := List.mem_map.mp hd
      exact stand_key _ _
    · rintro L ⟨vs, GL, hL, lv, dv⟩
      rw [lus, List.take_length] at dv
      have form : ∀ d ∈ rows.map (fun ns => standD ns.reverse (holdI r ns)), ∃ ns : List Int, ns.length = gn + 1 ∧ d = standD ns.reverse (holdI r ns) := fun d hd => by
        obtain ⟨ns, hns, rfl⟩ := List.mem_map.mp hd
        exact ⟨ns, hB ns hns, rfl⟩
      refine ⟨D, vs, _, rfl, SqL.of hL, dv, fun d hd d' hd' => ?_, .inl fun d hd => ?_, fun d hd => ?_, fun p ys ly hyd hp => ?_⟩
      · obtain ⟨ns, l1, rfl⟩ := form d hd
        obtain ⟨ms, l2, rfl⟩ := form d' hd'
        have := ints_alike ns.reverse ms.reverse (by rw [List.length_reverse, List.length_reverse, l1, l2])
        simp only [standD, PySem.W.alike, PySem.W.alikeAll, this, Bool.and_self]
      · obtain ⟨ns, l1, rfl⟩ := form d hd
        exact ⟨_, _, rfl⟩
      · obtain ⟨ns, l1, rfl⟩ := form d hd
        exact Nat.le_trans (stand_deep _ _) (by decide)
      · have GP : Grow L (upd L p (.lst ys)) := Grow.new hp
        refine ⟨p, ys, rfl, .inl ⟨SqL.of upd_same, fun l hl => ?_⟩⟩
        have GQ := GP.trans (Grow.new (o := .tup ys) hl)
        exact k l ys _ ((G.trans GL).trans GQ) upd_same (growDpAll GQ _ _ hyd)
end

/-! ### what keeps the rest, in part; the beginnings as the law comes to them -/
theorem gaps_part {r : Int} {cs ys : List Int} (h : gapsB r (cs ++ ys) = true) : gapsB r cs = true := by
  unfold gapsB at *
  rw [List.all_eq_true] at *
  intro p hp
  obtain ⟨i, hi⟩ := List.mem_iff_getElem?.mp hp
  obtain ⟨a, b⟩ := List.getElem?_zip_eq_some.mp hi
  rw [List.getElem?_drop] at b
  have la := (List.getElem?_eq_some_iff.mp a).1
  have lb := (List.getElem?_eq_some_iff.mp b).1
  refine h p (List.mem_of_getElem? (i := i) (List.getElem?_zip_eq_some.mpr ⟨?_, ?_⟩))
  · rw [List.getElem?_append_left la]; exact a
  · rw [List.getElem?_drop, List.getElem?_append_left lb]; exact b
theorem kept_part {r x : Int} {ns : List Int} (h : keptB (ns ++ [x]) r = true) : keptB ns r = true := by
  unfold keptB at *
  cases ns with
  | nil => rfl
  | cons y t =>
    refine gaps_part (ys := ((List.range 1).filter fun i => changesP ((y :: t) ++ [x]) (t.length + i)).map fun i : Nat => 1 + ((t.length + i : Nat) : Int)) ?_
    have e : changesI ((y :: t) ++ [x]) = changesI (y :: t) ++ ((List.range 1).filter fun i => changesP ((y :: t) ++ [x]) (t.length + i)).map fun i : Nat => 1 + ((t.length + i : Nat) : Int) := by
      unfold changesI
      have l1 : ((y :: t) ++ [x]).length - 1 = t.length + 1 := by simp
      have l2 : (y :: t).length - 1 = t.length := by simp
      rw [l1, l2, List.range_add, List.filter_append, List.map_append]
      congr 1
      · congr 1
        refine List.filter_congr fun i hi => ?_
        have li := List.mem_range.mp hi
        unfold changesP
        rw [List.getElem?_append_left (by rw [List.length_cons]; omega), List.getElem?_append_left (by rw [List.length_cons]; omega)]
      · rw [List.filter_map, List.map_map]
        rfl
    rw [← e]
    exact h
/-- the beginnings as the law comes to them -/
def lawR (z : Nat) (r : Int) : Nat → List (List Int)
  | 0 => [[]]
  | n + 1 => (extR z (lawR z r n)).filter fun ns => keptB ns r
theorem lawR_eq (z : Nat) (r : Int) : ∀ n, lawR z r n = (allR z n).filter fun ns => keptB ns r
  | 0 => rfl
  | n + 1 => by
    show (extR z (lawR z r n)).filter _ = (extR z (allR z n)).filter _
    rw [lawR_eq z r n]
    generalize allR z n = rows
    induction rows with
    | nil => rfl
    | cons x rows ih =>
      have one : ∀ ys : List (List Int), extR z (x :: ys) = extR z [x] ++ extR z ys := fun ys => by rw [← extR_append]; rfl
      rw [one, List.filter_append, ← ih]
      by_cases kx : keptB x r = true
      · rw [List.filter_cons, if_pos kx, one, List.filter_append]
      · rw [List.filter_cons, if_neg kx]
        have none : (extR z [x]).filter (fun ns => keptB ns r) = [] := by
          rw [List.filter_eq_nil_iff]
          intro y hy hk
          obtain ⟨q, hq, h, _, rfl⟩ := mem_extR.mp hy
          rw [List.mem_singleton.mp hq] at hk
          exact kx (kept_part hk)
        rw [none, List.nil_append]

/-! ### heads and hold, ascending -/
abbrev HKey : Type := List Int × Int
def leK (p q : HKey) : Bool := decide (p.1 < q.1 ∨ (p.1 = q.1 ∧ p.2 ≤ q.2))
theorem lists_three (a b : List Int) : a < b ∨ a = b ∨ b < a := by
  by_cases h : a < b
  · exact .inl h
  · by_cases h' : b < a
    · exact .inr (.inr h')
    · exact .inr (.inl (List.le_antisymm (List.not_lt.mp h') (List.not_lt.mp h)))
theorem leK_total (p q : HKey) : (leK p q || leK q p) = true := by
  unfold leK
  rw [Bool.or_eq_true, decide_eq_true_eq, decide_eq_true_eq]
  rcases lists_three p.1 q.1 with h | h | h
  · exact .inl (.inl h)
  · by_cases c : p.2 ≤ q.2
    · exact .inl (.inr ⟨h, c⟩)
    · exact .inr (.inr ⟨h.symm, by omega⟩)
  · exact .inr (.inl h)
theorem leK_trans (p q s : HKey) (h1 : leK p q = true) (h2 : leK q s = true) : leK p s = true := by
  unfold leK at *
  rw [decide_eq_true_eq] at *
  rcases h1 with h1 | ⟨e1, h1⟩
  · rcases h2 with h2 | ⟨e2, h2⟩
    · exact .inl (List.lt_trans h1 h2)
    · exact .inl (e2 ▸ h1)
  · rcases h2 with h2 | ⟨e2, h2⟩
    · exact .inl (e1 ▸ h2)
    · exact .inr ⟨e1.trans e2, by omega⟩
theorem leK_anti {p q : HKey} (h1 : leK p q = true) (h2 : leK q p = true) : p = q := by
  unfold leK at *
  rw [decide_eq_true_eq] at *
  rcases h1 with h1 | ⟨e1, h1⟩
  · rcases h2 with h2 | ⟨e2, h2⟩
    · exact absurd h2 (List.lt_asymm h1)
    · rw [e2] at h1
      exact absurd h1 (List.lt_irrefl _)
  · rcases h2 with h2 | ⟨e2, h2⟩
    · rw [e1] at h2
      exact absurd h2 (List.lt_irrefl _)
    · exact Prod.ext e1 (by omega)
theorem leK_perm {l m : List HKey} (h : l.Perm m) : l.mergeSort leK = m.mergeSort leK :=
  List.Perm.eq_of_pairwise (le := fun p q => leK p q = true) (fun p q _ _ a b => leK_anti a b) (List.pairwise_mergeSort leK_trans leK_total l) (List.pairwise_mergeSort leK_trans leK_total m)
    ((List.mergeSort_perm l leK).trans (h.trans (List.mergeSort_perm m leK).symm))
def pairK (p : HKey) : PyData := .tuple [.tuple (p.1.map PyData.int), .int p.2]
theorem eqv_ints : ∀ (a b : List Int), PyData.eqvAll (a.map PyData.int) (b.map PyData.int) = decide (a = b)
  | [], [] => rfl
  | [], _ :: _ => by simp [PyData.eqvAll]
  | _ :: _, [] => by simp [PyData.eqvAll]
  | x :: a, y :: b => by
    have ih := eqv_ints a b
    simp only [List.map_cons, PyData.eqvAll, PyData.eqv, ih]
    by_cases h1 : x = y <;> by_cases h2 : a = b <;> simp [h1, h2]
theorem le_pair {p q : HKey} (h : p.1.length = q.1.length) : PySem.W.dataLe false id (pairK p) (pairK q) = leK p q := by
  have al : PySem.W.alike (.tuple (q.1.map PyData.int)) (.tuple (p.1.map PyData.int)) = true := by
    simp only [PySem.W.alike]
    exact ints_alike _ _ h.symm
  have al2 : PySem.W.alike (.int q.2) (.int p.2) = true := by simp only [PySem.W.alike]
  show (!PySem.W.dataLt (pairK q) (pairK p)) = _
  unfold pairK
  rw [PySem.W.dataLt_pair al al2]
  have e1 : PyData.eqv (.tuple (q.1.map PyData.int)) (.tuple (p.1.map PyData.int)) = decide (q.1 = p.1) := by
    simp only [PyData.eqv]
    exact eqv_ints _ _
  have e2 : PySem.W.dataLt (.tuple (q.1.map PyData.int)) (.tuple (p.1.map PyData.int)) = decide (q.1 < p.1) := by
    rw [PySem.W.dataLt_tuple]
    exact PySem.W.dataLt_ints _ _
  have e3 : PyData.eqv (.int q.2) (.int p.2) = decide (q.2 = p.2) := by
    simp only [PyData.eqv]
    by_cases h : q.2 = p.2 <;> simp [h]
  rw [e1, e2, e3, PySem.W.dataLt_int]
  unfold leK
  by_cases c : q.1 = p.1
  · rw [c]
    have ir : ¬ p.1 < p.1 := List.lt_irrefl _
    by_cases d : q.2 = p.2
    · simp [d, ir]
    · by_cases f : q.2 < p.2
      · have : ¬ p.2 ≤ q.2 := by omega
        simp [d, f, ir, this]
      · have : p.2 ≤ q.2 := by omega
        simp [d, f, ir, this]
  · by_cases f : q.1 < p.1
    · have a := List.lt_asymm f
      have c' : ¬ p.1 = q.1 := fun z => c z.symm
      simp [c, f, a, c']
    · have g : p.1 < q.1 := by
        rcases lists_three p.1 q.1 with g | g | g
        · exact g
        · exact absurd g.symm c
        · exact absurd g f
      simp [c, f, g]
theorem le_stand {p q : HKey} (h : p.1.length = q.1.length) : PySem.W.dataLe false id (standD p.1 p.2) (standD q.1 q.2) = PySem.W.dataLe false id (pairK p) (pairK q) := by
  have al : PySem.W.alike (.tuple (q.1.map PyData.int)) (.tuple (p.1.map PyData.int)) = true := by
    simp only [PySem.W.alike]
    exact ints_alike _ _ h.symm
  have al2 : PySem.W.alike (.int q.2) (.int p.2) = true := by simp only [PySem.W.alike]
  show (!PySem.W.dataLt (standD q.1 q.2) (standD p.1 p.2)) = (!PySem.W.dataLt (pairK q) (pairK p))
  congr 1
  unfold standD pairK
  rw [PySem.W.dataLt_pair al al2, PySem.W.dataLt_tuple, PySem.W.dataLt_cons al, PySem.W.dataLt_cons al2]
  rw [show PyProof.Rows.lexLt itemOrd (PySem.W.keyToksAll [PyData.tuple [.int 0, .int 0, .int (-1)]]) (PySem.W.keyToksAll [PyData.tuple [.int 0, .int 0, .int (-1)]]) = false from lex_irrefl _]
/-- the sorted data, by way of the keys -/
theorem sort_pairs {l : List HKey} {g : Nat} (h : ∀ p ∈ l, p.1.length = g) : (l.map pairK).mergeSort (PySem.W.dataLe false id) = (l.mergeSort leK).map pairK :=
  (List.map_mergeSort fun a ha b hb => (le_pair ((h a ha).trans (h b hb).symm)).symm).symm
theorem sort_stands {l : List HKey} {g : Nat} (h : ∀ p ∈ l, p.1.length = g) : (l.map fun p => standD p.1 p.2).mergeSort (PySem.W.dataLe false id) = (l.mergeSort leK).map fun p => standD p.1 p.2 :=
  (List.map_mergeSort fun a ha b hb => ((le_stand ((h a ha).trans (h b hb).symm)).trans (le_pair ((h a ha).trans (h b hb).symm))).symm).symm
/-- the pairs that the law sorts -/
def lfirstsD (z r g : Int) : List PyData := (((begR z r g).map fun ns => (ns.reverse, holdI r ns)).mergeSort leK).map pairK
def unK : PyData → HKey
  | .tuple [.tuple hs, .int u] => (hs.map intD, u)
  | _ => ([], 0)
theorem unK_pair (p : HKey) : unK (pairK p) = p := by
  have e : (p.1.map PyData.int).map intD = p.1 := by
    rw [List.map_map]
    exact (List.map_congr_left fun x _ => rfl).trans (List.map_id _)
  unfold pairK unK
  simp only
  rw [e]
theorem allR_once (z : Nat) : ∀ n, (allR z n).Nodup
  | 0 => List.nodup_cons.mpr ⟨List.not_mem_nil, List.nodup_nil⟩
  | n + 1 => by
    have ih := allR_once z n
    show (extR z (allR z n)).Nodup
    unfold extR
    refine List.pairwise_flatMap.mpr ⟨fun a ha => ?_, ih.imp_of_mem fun {a b} ha hb ne x hx y hy e => ne ?_⟩
    · refine List.Pairwise.map _ (fun x y ne e => ne ?_) List.nodup_range
      have := List.append_cancel_left e
      injection this with h1
      omega
    · obtain ⟨h, _, rfl⟩ := List.mem_map.mp hx
      obtain ⟨h', _, rfl⟩ := List.mem_map.mp hy
      have l1 := (allR_mem ha).1
      have l2 := (allR_mem hb).1
      exact (List.append_inj e (l1.trans l2.symm)).1
theorem keys_once (z r g : Int) : ((begR z r g).map fun ns => (ns.reverse, holdI r ns)).Nodup := by
  refine List.Pairwise.map _ (fun a b ne e => ne ?_) ((allR_once _ _).filter _)
  have h : a.reverse = b.reverse := congrArg Prod.fst e
  simpa using h
/-- what comes of the set of all these pairs -/
theorem set_sorted {z r g : Int} {D : List PyData} (nd : D.Nodup) (sub : ∀ d ∈ D, d ∈ (begR z r g).map fun ns => pairK (ns.reverse, holdI r ns)) (all : ∀ d ∈ (begR z r g).map fun ns => pairK (ns.reverse, holdI r ns), d ∈ D) :
    D.mergeSort (PySem.W.dataLe false id) = lfirstsD z r g := by
  have form : ∀ d ∈ D, ∃ ns ∈ begR z r g, d = pairK (ns.reverse, holdI r ns) := fun d hd => by
    obtain ⟨ns, h1, h2⟩ := List.mem_map.mp (sub d hd)
    exact ⟨ns, h1, h2.symm⟩
  have back : (D.map unK).map pairK = D := by
    rw [List.map_map]
    refine (List.map_congr_left fun d hd => ?_).trans (List.map_id _)
    obtain ⟨ns, _, rfl⟩ := form d hd
    show pairK (unK (pairK _)) = _
    rw [unK_pair]
    rfl
  have nd2 : (D.map unK).Nodup := by
    refine List.Pairwise.of_map pairK (S := fun a b => a ≠ b) (fun a b ne e => ne (congrArg pairK e)) ?_
    rw [back]
    exact nd
  have pm : (D.map unK).Perm ((begR z r g).map fun ns => (ns.reverse, holdI r ns)) := by
    refine (List.perm_ext_iff_of_nodup nd2 (keys_once z r g)).mpr fun p => ⟨fun hp => ?_, fun hp => ?_⟩
    · obtain ⟨d, hd, rfl⟩ := List.mem_map.mp hp
      obtain ⟨ns, h1, rfl⟩ := form d hd
      rw [unK_pair]
      exact List.mem_map.mpr ⟨ns, h1, rfl⟩
    · obtain ⟨ns, h1, rfl⟩ := List.mem_map.mp hp
      exact List.mem_map.mpr ⟨_, all _ (List.mem_map.mpr ⟨ns, h1, rfl⟩), unK_pair _⟩
  have len : ∀ p ∈ D.map unK, p.1.length = (g + 1).toNat := fun p hp => by
    obtain ⟨ns, h1, rfl⟩ := List.mem_map.mp (pm.mem_iff.mp hp)
    rw [List.length_reverse]
    exact (allR_mem (List.mem_filter.mp h1).1).1
  have e := sort_pairs len
  rw [back] at e
  rw [e, leK_perm pm]
  rfl

def InZ (z : Int) (ns : List Int) : Prop := ∀ x ∈ ns, 0 ≤ x ∧ x < z

/-! ### pairs as data -/
theorem ints_lay1 (ns : List Int) : PyData.canLay0 (.tuple (ns.map PyData.int)) = true := by simp only [PyData.canLay0, ints_lay]
theorem ints_shapedT (ns : List Int) : SeqAt.shaped (.tuple (ns.map PyData.int)) = true := by
  unfold SeqAt.shaped
  simp only [PyData.canLay0, PyData.depth, ints_lay, ints_deep, Bool.true_and, decide_eq_true_eq]
  decide
def pairD (q : Int × Int) : PyData := .tuple [.int q.1, .int q.2]
def PairAt (J : Hp) (p F : Addr) (v : V) (q : Int × Int) : Prop := ∃ b : Addr, v = .ref b ∧ b ≠ p ∧ b ≠ F ∧ J b = some (.tup [.int q.1, .int q.2])
theorem pairs_dp {K : PySem.W.Frag} {H : Hp} {p F : Addr} : ∀ {vs : List V} {ps : List (Int × Int)}, Paired (PairAt H p F) vs ps → DpAll K (off p H) vs (ps.map pairD)
  | _, _, .nil => .nil
  | _, _, .cons ⟨b, e, b1, _, hb⟩ t => by
    subst e
    exact .cons (.tup (SqT.of (off_at b1 hb)) (.cons (.int _) (.cons (.int _) .nil))) (pairs_dp t)
theorem dp_two {K : PySem.W.Frag} {H : Hp} {v : V} {x y : Int} (h : Dp K H v (.tuple [.int x, .int y])) : ∃ a, v = .ref a ∧ SqT K H a [.int x, .int y] := by
  cases h with
  | tup h1 h2 =>
    cases h2 with
    | cons a h2 =>
    cases h2 with
    | cons b h2 =>
    cases h2
    cases a
    cases b
    exact ⟨_, rfl, h1⟩
theorem pair_shaped {a b : Int} : SeqAt.shaped (.tuple [.int a, .int b]) = true := ints_shapedT [a, b]
theorem two_eqv {a b c d : Int} : PyData.eqv (.tuple [.int a, .int b]) (.tuple [.int c, .int d]) = (decide (a = c) && decide (b = d)) := by
  simp only [PyData.eqv, PyData.eqvAll, Bool.and_true]
  rw [Bool.eq_iff_iff]
  simp
def PairsIn (z : Int) (ps : List (Int × Int)) : Prop := ∀ q ∈ ps, -1 ≤ q.1 ∧ q.1 < z ∧ -1 ≤ q.2 ∧ q.2 < z
theorem dp_ints {K : PySem.W.Frag} {H : Hp} : ∀ {vs : List V} {ns : List Int}, DpAll K H vs (ns.map PyData.int) → vs = ns.map V.int
  | [], [], _ => rfl
  | _ :: _, _ :: ns, .cons (.int _) t => by rw [dp_ints (ns := ns) t]; rfl
theorem dt_ints {K : PySem.W.Frag} {p : Addr} {H : Hp} {v : V} {ns : List Int} (h : Dt K p H v (.tuple (ns.map PyData.int))) : ∃ a : Addr, v = .ref a ∧ SqT K H a (ns.map V.int) := by
  obtain ⟨a, xs, e, hx, al⟩ := h.get
  exact ⟨a, e, by rw [← dp_ints al]; exact hx⟩
theorem InZ.app {z : Int} {a b : List Int} (h : InZ z a) (k : InZ z b) : InZ z (a ++ b) := fun x hx => (List.mem_append.mp hx).elim (h x) (k x)
theorem InZ.one {z x : Int} (h : 0 ≤ x) (k : x < z) : InZ z [x] := fun y hy => by rw [List.mem_singleton.mp hy]; exact ⟨h, k⟩
theorem InZ.take {z : Int} {a : List Int} (h : InZ z a) (j : Nat) : InZ z (a.take j) := fun x hx => h x (List.mem_of_mem_take hx)
theorem InZ.drop {z : Int} {a : List Int} (h : InZ z a) (j : Nat) : InZ z (a.drop j) := fun x hx => h x (List.mem_of_mem_drop hx)
theorem PairsIn.app {z : Int} {a b : List (Int × Int)} (h : PairsIn z a) (k : PairsIn z b) : PairsIn z (a ++ b) := fun x hx => (List.mem_append.mp hx).elim (h x) (k x)
theorem PairsIn.one {z : Int} {q : Int × Int} (h : -1 ≤ q.1 ∧ q.1 < z ∧ -1 ≤ q.2 ∧ q.2 < z) : PairsIn z [q] := fun y hy => by rw [List.mem_singleton.mp hy]; exact h
theorem PairsIn.take {z : Int} {a : List (Int × Int)} (h : PairsIn z a) (j : Nat) : PairsIn z (a.take j) := fun x hx => h x (List.mem_of_mem_take hx)
theorem PairsIn.drop {z : Int} {a : List (Int × Int)} (h : PairsIn z a) (j : Nat) : PairsIn z (a.drop j) := fun x hx => h x (List.mem_of_mem_drop hx)
theorem cut_init {xs : List V} (h : 0 < xs.length) : cutV xs none (some (-1)) = xs.take (xs.length - 1) := by
  have e : HT.sIx xs.length xs.length (some (-1)) = xs.length - 1 := by
    show (if (-1 : Int) < 0 then ((-1 : Int) + (xs.length : Int)).toNat else min (-1 : Int).toNat xs.length) = xs.length - 1
    rw [if_pos (by decide)]
    omega
  unfold cutV
  rw [HT.sIx_none, e, List.drop_zero, Nat.sub_zero]
theorem put_len {α : Type} {l : List α} {x : α} {j : Nat} (h : j < l.length) : (l.take j ++ [x] ++ l.drop (j + 1)).length = l.length := by
  simp only [List.length_append, List.length_take, List.length_singleton, List.length_drop]
  omega

/-! ### who may be named -/
/-- what stands in front of the first s -/
def ahead (s : Int) : List Int → List Int
  | [] => []
  | x :: r => if x = s then [] else x :: ahead s r
theorem ahead_take {s : Int} : ∀ {ns : List Int} {i : Nat}, (∀ x ∈ ns.take i, x ≠ s) → ns[i]? = some s → ahead s ns = ns.take i
  | [], i, _, h => by simp at h
  | x :: r, 0, _, h => by
    have e : x = s := by simpa using h
    simp [ahead, e]
  | x :: r, i + 1, hn, h => by
    rw [List.take_succ_cons] at hn ⊢
    have nx : x ≠ s := hn x List.mem_cons_self
    simp only [ahead, if_neg nx]
    rw [ahead_take (fun y hy => hn y (List.mem_cons_of_mem _ hy)) (by simpa using h)]
theorem ahead_all {s : Int} : ∀ {ns : List Int}, (∀ x ∈ ns, x ≠ s) → ahead s ns = ns
  | [], _ => rfl
  | x :: r, hn => by
    have nx : x ≠ s := hn x List.mem_cons_self
    simp only [ahead, if_neg nx]
    rw [ahead_all fun y hy => hn y (List.mem_cons_of_mem _ hy)]
theorem mem_ahead {s k : Int} : ∀ {l : List Int}, k ∈ ahead s l ↔ ∃ i, l[i]? = some k ∧ s ∉ l.take (i + 1)
  | [] => by simp [ahead]
  | x :: r => by
    by_cases e : x = s
    · simp only [ahead, if_pos e]
      refine ⟨fun h => absurd h List.not_mem_nil, fun ⟨i, _, h⟩ => absurd ?_ h⟩
      rw [List.take_succ_cons, e]
      exact List.mem_cons_self
    · simp only [ahead, if_neg e, List.mem_cons]
      rw [mem_ahead]
      constructor
      · rintro (h | ⟨i, h1, h2⟩)
        · exact ⟨0, by simp [h], by simp; exact fun z => e z.symm⟩
        · refine ⟨i + 1, by simpa using h1, ?_⟩
          rw [List.take_succ_cons, List.mem_cons]
          rintro (z | z)
          · exact e z.symm
          · exact h2 z
      · rintro ⟨i, h1, h2⟩
        cases i with
        | zero => exact Or.inl (by simpa using h1.symm)
        | succ i =>
          rw [List.take_succ_cons, List.mem_cons] at h2
          exact Or.inr ⟨i, by simpa using h1, fun z => h2 (Or.inr z)⟩
theorem inV_ints (s : Int) (zs : List Int) : inV (.int s) (zs.map V.int) = zs.contains s := by
  unfold inV
  rw [List.any_map]
  induction zs with
  | nil => rfl
  | cons z r ih =>
    rw [List.any_cons, ih, List.contains_cons]
    show ((z == s) || r.contains s) = ((s == z) || r.contains s)
    rw [Bool.beq_comm]
theorem flat_ints (zs : List Int) : (zs.map V.int).all flatV = true := by
  rw [List.all_map]
  exact List.all_eq_true.mpr fun _ _ => rfl
def sp_named (K : PySem.W.Frag) : Sp := fun vs H Q _ => ∃ (a : Addr) (s : Int) (ns : List Int), vs = [.ref a, .int s] ∧ SqT K H a (ns.map V.int) ∧ ns.length < 60 ∧
  ∀ (out : List Int) (t : Addr) (J : Hp), Sorted out (ahead s ns) → out.length < 60 → Same H J → J t = some (.tup (out.map V.int)) → Q (.ref t) J
theorem write_same {q : Addr} {G J : Hp} {o : HO} (k : Same G J) (h : G q = none) : Same G (upd J q o) := fun b u e => by
  rw [upd_ne (ne_of_none e h)]
  exact k b u e
section
variable {P : Program} {w : World} {K : PySem.W.Frag} {mg : Str → Option Value} {base : Heap}
theorem ok_named (T : Txt K mg) : FnOk P w K mg base CX0 1 T.a_named_by T.d_named_by ["heads", "server"] (sp_named K) := by
  refine T.F_named_by.ok sc_named_by (fun vs H Q E h => ?_) (fun cdv A outer st H vs Q E hr h => ?_)
  · obtain ⟨a, s, ns, rfl, _⟩ := h
    rfl
  · obtain ⟨a, s, ns, rfl, hx, hl, k⟩ := h
    refine ⟨_, (pss_cons (ps_set (i := 2) sc_named_by.nd rfl (Or.inl rfl) (pe_lst pa_nil))
      (pss_cons (ps_for PassesOwn.never rfl (pi_tup (pv 0)) (pg_name (i := 3) sc_named_by.nd rfl (Or.inl rfl))
        (pss_cons (ps_if (pt_cmpR op_eq (pv 3) (pv 1) (nomark _))
        (pss_one ps_break)
        pss_nil)
      (pss_one (ps_expr (pe_bm PySem.F.plainAttrs_list PySem.F.slot_list_append PySem.F.type_list_append mt_append (pv 2) (pa_cons (pv 3) pa_nil))))))
      (pss_one (ps_ret (pe_callTy (T := "tuple") call_tuple_of (by rfl) T.m_tuple (by decide +kernel) (pa_cons (pe_callB (id := "sorted") (cr_sortedSet rfl) (by rfl) T.m_sorted (by decide +kernel) (pa_cons (pe_callTy (T := "set") (cr_setN rfl) (by rfl) T.m_set (by decide +kernel) (pa_cons (pv 2) pa_nil)) pa_nil)) pa_nil)))))), ?_⟩
    refine ⟨Nat.zero_le _, fun F hF => ?_⟩
    have ll : (ns.map V.int).length = ns.length := List.length_map ..
    refine ⟨_, rfl, a, rfl, ⟨_, sameT (same_new hF) hx⟩, for_tup (K := K) (a := a) (xs := ns.map V.int) (fun i σ J => (∃ y, σ = [some (.ref a), some (.int s), some (.ref F), y]) ∧ Same H J ∧ J F = some (.lst ((ns.take i).map V.int)) ∧ ∀ x ∈ ns.take i, x ≠ s) ⟨⟨none, rfl⟩, same_new hF, upd_same, fun x hx => (List.not_mem_nil hx).elim⟩ (fun i σ J _ ⟨_, S, _⟩ => sameT S hx) ?_ ?_⟩
    · rintro i x σ J hxi ⟨⟨y, rfl⟩, S, hJ, hn⟩
      rw [List.getElem?_map] at hxi
      cases ex : ns[i]? with
      | none => rw [ex] at hxi; cases hxi
      | some v =>
      rw [ex] at hxi
      cases hxi
      refine ⟨_, rfl, _, rfl, rfl, _, rfl, ?_⟩
      rw [dec_int]
      refine ite2 (fun e => ?_) (fun e => ?_)
      · have ev : v = s := by simpa using e
        have ea := ahead_take hn (show ns[i]? = some s by rw [ex, ev])
        exact ⟨_, rfl, F, ahead s ns, rfl, .inl (SqL.of (by rw [ea]; exact hJ)), by rw [ea, List.length_take]; omega, fun p1 m lm h1 => ⟨p1, _, m, rfl, upd_same, by rw [ea, List.length_take] at lm; omega, fun out p2 o1 o2 o3 h2 => ⟨p2, _, rfl, .inl ⟨SqL.of upd_same, fun t ht =>
          k out t _ ⟨o1, fun u => by rw [o2 u]; exact decide_eq_true_iff⟩ (by rw [ea, List.length_take] at lm; omega) (((S.trans (same_new h1)).trans (same_new h2)).trans (same_new ht)) upd_same⟩⟩⟩⟩
      · have ev : v ≠ s := by simpa using e
        refine ⟨_, rfl, .inl ⟨rfl, _, SqL.of hJ⟩, _, rfl, F, _, _, rfl, rfl, hJ, small1000 (by rw [List.length_map, List.length_take]; omega), ?_⟩
        refine ⟨⟨_, rfl⟩, write_same S hF, ?_, fun x hx => ?_⟩
        · rw [upd_same, List.take_add_one, ex, List.map_append]
          rfl
        · rw [List.take_add_one, ex] at hx
          rcases List.mem_append.mp hx with hx | hx
          · exact hn x hx
          · rw [Option.toList_some, List.mem_singleton] at hx
            rw [hx]
            exact ev
    · rintro σ J ⟨⟨y, rfl⟩, S, hJ, hn⟩
      rw [ll, List.take_of_length_le (Nat.le_refl _)] at hJ hn
      have ea : ahead s ns = ns.take ns.length := by rw [ahead_all hn, List.take_of_length_le (Nat.le_refl _)]
      rw [← List.take_of_length_le (Nat.le_refl ns.length)] at hJ
      exact ⟨_, rfl, F, ahead s ns, rfl, .inl (SqL.of (by rw [ea]; exact hJ)), by rw [ea, List.length_take]; omega, fun p1 m lm h1 => ⟨p1, _, m, rfl, upd_same, by rw [ea, List.length_take] at lm; omega, fun out p2 o1 o2 o3 h2 => ⟨p2, _, rfl, .inl ⟨SqL.of upd_same, fun t ht =>
          k out t _ ⟨o1, fun u => by rw [o2 u]; exact decide_eq_true_iff⟩ (by rw [ea, List.length_take] at lm; omega) (((S.trans (same_new h1)).trans (same_new h2)).trans (same_new ht)) upd_same⟩⟩⟩⟩
end

/-! ### where heads and hold may turn to -/
/-- where (heads, hold) may turn to -/
def turnsK (z r : Int) (hs : List Int) (u : Int) : List (List Int × Int) :=
  if 0 < u then [(hs.headD 0 :: hs.take (hs.length - 1), u - 1)]
  else (List.range z.toNat).map fun h : Nat => ((h : Int) :: hs.take (hs.length - 1), if (h : Int) = hs.headD 0 then 0 else r - 1)
def turnD (p : List Int × Int) : PyData := .tuple [.tuple (p.1.map PyData.int), .int p.2]
def sp_turns (K : PySem.W.Frag) (tb : Addr) : Sp := fun vs H Q _ => ∃ (th a : Addr) (z r g u : Int) (hs : List Int), vs = [.ref th, .ref a, .int u] ∧ SqT K H th [.int z, .int r, .int g] ∧ 0 ≤ z ∧ z ≤ 9 ∧ SqT K H a (hs.map V.int) ∧ hs ≠ [] ∧ hs.length < 60 ∧ GxR.TabG H tb ∧
  ∀ (t : Addr) (us : List V) (J : Hp), Grow H J → SqT K J t us → DpAll K J us ((turnsK z r hs u).map turnD) → Q (.ref t) J
section
variable {P : Program} {w : World} {K : PySem.W.Frag} {mg : Str → Option Value} {base : Heap}
theorem ok_turns (T : Txt K mg) (TB : GxR.TabB base mg T.c_turns T.p_turns) : FnOk P w K mg base CX0 1 T.a_turns T.d_turns ["house", "heads", "hold"] (sp_turns K T.p_turns) := by
  refine Fun.okC T.F_turns T.h_turns sc_turns (fun vs H Q E h => ?_) (fun A outer s H vs Q E hr h => ?_)
  · obtain ⟨th, a, z, r, g, u, hs, rfl, _⟩ := h
    rfl
  · obtain ⟨th, a, z, r, g, u, hs, rfl, hth, z0, z9, ha, ne, l60, hT, k⟩ := h
    refine ⟨_, (pss_cons (ps_asg (pv 0) (pg_tup (by rfl) (pgs_cons (pg_name (i := 3) sc_turns.nd rfl (Or.inl rfl)) (pgs_cons (pg_name (i := 4) sc_turns.nd rfl (Or.inr rfl)) (pgs_cons (pg_name (i := 5) sc_turns.nd rfl (Or.inl rfl)) pgs_nil)))))
      (pss_cons (ps_set (i := 6) sc_turns.nd rfl (Or.inr rfl) (pe_slice sl_tupS (pv 1) po_none (po_some (pe_un un_neg pe_int))))
      (pss_cons (ps_if (pt_cmpR op_gt (pv 2) pe_int (nomark _))
        (pss_one (ps_ret (pe_tup (pa_cons (pe_tup (pa_cons (pe_op op_catS (pe_tup (pa_cons (pe_ix ix_tup (pv 1) pe_int (fun _ _ => rfl)) pa_nil)) (pv 6)) (pa_cons (pe_op op_sub (pv 2) pe_int) pa_nil))) pa_nil))))
        pss_nil)
      (pss_one (ps_ret (pe_tupO (c := T.c_turns) (T := T.p_turns) hr (by rfl) T.m_tuple TB rfl ⟨rfl, rfl, by decide +kernel, rfl, rfl, gen_free (by decide +kernel)⟩ (pe_callTy (T := "range") cr_rangeOne (by rfl) T.m_range (by decide +kernel) (pa_cons (pv 3) pa_nil)) (fun _ => rfl) rfl)))))), ?_⟩
    have ll : (hs.map V.int).length = hs.length := List.length_map ..
    have lpos : 0 < hs.length := List.length_pos_iff.mpr ne
    have cutI : cutV (hs.map V.int) none (some (-1)) = (hs.take (hs.length - 1)).map V.int := by rw [cut_init (by omega), ll, List.map_take]
    have at0 : atI (hs.map V.int) 0 = some (.int (hs.headD 0)) := by
      refine atI_nat (j := 0) ?_
      cases hs with
      | nil => exact absurd rfl ne
      | cons x r' => rfl
    have lo : (hs.take (hs.length - 1)).length < 60 := by rw [List.length_take]; omega
    have eK : turnsK z r hs u = if 0 < u then [(hs.headD 0 :: hs.take (hs.length - 1), u - 1)] else (List.range z.toNat).map fun h : Nat => ((h : Int) :: hs.take (hs.length - 1), if (h : Int) = hs.headD 0 then 0 else r - 1) := rfl
    rw [eK] at k
    generalize hs.take (hs.length - 1) = old at cutI lo k
    generalize hs.headD 0 = x0 at at0 k
    refine ⟨_, rfl, th, _, rfl, hth, rfl, _, _, rfl, _, _, rfl, _, _, rfl, rfl, ?_⟩
    refine ⟨_, rfl, 1, rfl, -1, rfl, a, _, rfl, ha, fun q J e S => ?_⟩
    rw [cutI] at e
    have haJ := sameT S ha
    have GJ := Grow.of_same S
    refine ⟨_, rfl, _, _, rfl, rfl, _, rfl, ite2 (fun hu => ?_) (fun hu => ?_)⟩
    · rw [if_pos (of_decide_eq_true hu)] at k
      refine ⟨_, rfl, a, _, 0, _, rfl, rfl, haJ, at0, by show 1 ≤ sizeLine; decide, fun q1 g1 => ?_⟩
      have s1 : Same J (upd J q1 (.tup [.int x0])) := same_new g1
      refine ⟨_, rfl, q1, q, _, _, rfl, rfl, SqT.of upd_same, sameT s1 e, Nat.le_trans (by rw [List.length_singleton, List.length_map]; omega : _ ≤ 100) (by decide), fun t1 J1 e1 S1 => ?_⟩
      refine ⟨_, rfl, _, _, rfl, rfl, by show 2 ≤ sizeLine; decide, fun t2 g2 => ⟨by show 1 ≤ sizeLine; decide, fun t3 g3 => ?_⟩⟩
      have S2 : Same J1 (upd (upd J1 t2 (.tup [.ref t1, .int (u - 1)])) t3 (.tup [.ref t2])) := (same_new g2).trans (same_new g3)
      have T2 : (upd (upd J1 t2 (.tup [.ref t1, .int (u - 1)])) t3 (.tup [.ref t2])) t2 = some (.tup [.ref t1, .int (u - 1)]) := same_new g3 _ _ upd_same
      refine k t3 _ _ (Grow.of_same (S.trans ((s1.trans S1).trans S2))) (SqT.of upd_same) (.cons (.tup (SqT.of T2) (.cons (.tup (sameT S2 e1) ?_) (.cons (.int _) .nil))) .nil)
      exact .cons (.int _) (ints_dp _)
    · rw [if_neg (fun h => hu (decide_eq_true h))] at k
      refine ⟨_, rfl, z, rfl, fun q2 g2 => ?_⟩
      have G2 : Grow J (upd J q2 (.rng 0 z)) := Grow.new g2
      have GH := GJ.trans G2
      have hR : (upd J q2 (.rng 0 z)) q2 = some (.rng 0 z) := upd_same
      refine ⟨(z - 0).toNat, fun i v => ∃ t, v = .int (0 + (i : Nat) * 1) t, fun _ => true, fun i => turnD ((i : Int) :: old, if (i : Int) = x0 then 0 else r - 1), Nat.le_trans (by omega : (z - 0).toNat ≤ 10) (by decide), GH.t.tab hT, fun pins s1 uv I1 ru => ?_, fun t vs H2 g3 hn h2 hd => ?_⟩
      · cases ru
        obtain ⟨ta, tb, tc, hRo⟩ := I1.hok q2 _ hR
        obtain ⟨ps, hP, _⟩ := GH.t.tab hT
        have hPo := I1.hok _ _ hP
        refine ⟨over_rng (I1.ok.hd rfl) hRo (small_one (by decide) (by decide) (by omega) (by omega)) hPo, ?_⟩
        obtain ⟨itO, rvO, isO, _⟩ := I1.tuple (G2.tup e)
        obtain ⟨itH, rvH, isH, _⟩ := I1.tuple (G2.tup haJ)
        obtain ⟨uO, cO, rO, hcO, hcellO⟩ := Inv.freeAt (i := 6) (x := "older") I1 rfl rfl rfl
        obtain ⟨uH, cH, rH, hcH, hcellH⟩ := Inv.freeAt (i := 1) (x := "heads") I1 rfl rfl rfl
        obtain ⟨uR, cR, rR, hcR, hcellR⟩ := Inv.freeAt (i := 4) (x := "rest") I1 rfl rfl rfl
        obtain rfl : uO = .ref q := rO
        obtain rfl : uH = .ref a := rH
        obtain ⟨tkR, rfl⟩ : ∃ t, uR = .int r t := rR
        have lO : itO.length = old.length := by have := rvO.length; rw [List.length_map] at this; omega
        intro cenv A' E' i v s2 m2 hv hsc hcl hA hns hm2 hk _ _
        obtain ⟨tv, rfl⟩ := hv
        have hkind : cenv.scope.kind = .function := by rw [hsc]
        have cellAt : ∀ {d : Addr} {v : Value}, s1.heap.IsCell d (some v) → s2.heap.IsCell d (some v) := fun {d v} hcl => by
          obtain ⟨o, ho, hd⟩ := hcl
          refine ⟨o, hk d o (fun z => ?_) ho, hd⟩
          rw [z, hPo] at ho
          cases ho
          cases hd
        have tupAt : ∀ {d : Addr} {its : Array Value}, IsTup s1.heap d its → IsTup s2.heap d its := fun {d its} ht => by
          obtain ⟨o, ho, hc1, n, hd⟩ := ht
          refine ⟨o, hk d o (fun z => ?_) ho, hc1, n, hd⟩
          rw [z, hPo] at ho
          cases ho
          cases hd
        have inO : cenv.cells.lookup ("older" : Str) = some cO := by rw [hcl]; exact clo_at hcO _ _ (.inl (by decide +kernel))
        have inH : cenv.cells.lookup ("heads" : Str) = some cH := by rw [hcl]; exact clo_at hcH _ _ (.inl (by decide +kernel))
        have inR : cenv.cells.lookup ("rest" : Str) = some cR := by rw [hcl]; exact clo_at hcR _ _ (.inl (by decide +kernel))
        have isO2 := tupAt isO
        have isH2 := tupAt isH
        have ei : (0 + (i : Nat) * 1 : Int) = (i : Int) := by omega
        have keepC : ∀ {s' : Shared} {d : Addr} {v : Value}, PySem.Keeps s2 s' → s2.heap.IsCell d (some v) → s'.heap.IsCell d (some v) := fun {s' d v} kk hc => by
          obtain ⟨o, ho, hd⟩ := hc
          exact ⟨o, keepsH kk _ _ ho, hd⟩
        have gO : ∀ s', PySem.Keeps s2 s' → ∀ p : Pos, GV P w A' cenv s' (.Name "older" p) (· = .ref q) := fun s' kk p => gv_free (x := "older") hkind (by rw [hsc]; decide +kernel) inO (keepC kk (cellAt hcellO)) rfl
        have gH : ∀ s', PySem.Keeps s2 s' → ∀ p : Pos, GV P w A' cenv s' (.Name "heads" p) (· = .ref a) := fun s' kk p => gv_free (x := "heads") hkind (by rw [hsc]; decide +kernel) inH (keepC kk (cellAt hcellH)) rfl
        have gR : ∀ s', PySem.Keeps s2 s' → ∀ p : Pos, GV P w A' cenv s' (.Name "rest" p) (IsI r) := fun s' kk p => gv_free (x := "rest") hkind (by rw [hsc]; decide +kernel) inR (keepC kk (cellAt hcellR)) ⟨_, rfl⟩
        have gN : ∀ s', PySem.Keeps s2 s' → ∀ p : Pos, GV P w A' cenv s' (.Name "head" p) (IsI (i : Int)) := fun s' kk p => gv_loc (x := "head") hkind (by rw [hsc]; decide +kernel) (hns.keeps (keepsH kk)) hm2 ⟨_, by rw [ei]⟩
        have gI : ∀ s', PySem.Keeps s2 s' → ∀ (p p2 p3 : Pos) (jj : Nat), GV P w A' cenv s' (.Subscript (.Name "heads" p) (.Constant (.int 0) jj p2) p3) (IsI x0) := fun s' kk p p2 p3 jj => gv_ix (gH s' kk p) gv_int (isH2.keeps (keepsH kk)) rvH (Nat.le_trans (by rw [ll]; omega : _ ≤ 100) (by decide)) at0 (fun u hu => hu) (fun _ _ => rfl)
        refine ⟨gt_nil rfl _, fun _ => ?_⟩
        refine wpAny_mono (gm_turn (gN s2 (GxR.keeps_refl _) _) (fun s' kk => gO s' kk _) isO2 (by omega) (fun s' kk => gv_if (gN s' kk _) (gI s' kk _ _ _ _) gv_int (gv_sub (gR s' kk _) gv_int)) rfl rfl E') (fun y s3 ⟨⟨q', r', tj, tu, ey, nqr, n1, n2, o1, o2⟩, k3⟩ => ⟨?_, k3⟩) fun _ _ z => z
        refine ⟨[(q', { cls := .type "tuple", data := .seq [Value.ref r', .int (if (i : Int) = x0 then 0 else r - 1) tu].toArray }), (r', { cls := .type "tuple", data := .seq (Value.int (i : Int) tj :: itO).toArray })],
          ⟨.ref q', [(q', [.ref r', .int (if (i : Int) = x0 then 0 else r - 1)]), (r', (V.int (i : Int) :: old.map V.int))], ey, .cons ⟨rfl, by show 2 ≤ sizeLine; decide, _, .cons rfl (.cons ⟨tu, rfl⟩ .nil), rfl, _, rfl⟩ (.cons ⟨rfl, ?_, _, .cons ⟨tj, rfl⟩ rvO, rfl, _, rfl⟩ .nil), fun H2 _ hp => ?_⟩, ?_, fun p hp => ?_⟩
        · show (V.int (i : Int) :: old.map V.int).length ≤ sizeLine
          exact Nat.le_trans (by rw [List.length_cons, List.length_map]; omega : _ ≤ 100) (by decide)
        · have z1 := hp _ List.mem_cons_self
          have z2 := hp _ (List.mem_cons_of_mem _ List.mem_cons_self)
          exact .tup (SqT.of z1) (.cons (.tup (SqT.of z2) (.cons (.int _) (ints_dp _))) (.cons (.int _) .nil))
        · simp [nqr]
        · rcases List.mem_cons.mp hp with e | e
          · rw [e]; exact ⟨n1, o1⟩
          · rw [List.mem_singleton.mp e]; exact ⟨n2, o2⟩
      · refine k t vs H2 (GH.trans g3) (SqT.of h2) ?_
        have e3 : (((List.range (z - 0).toNat).filter fun _ => true).map fun i : Nat => turnD ((i : Int) :: old, if (i : Int) = x0 then 0 else r - 1)) = ((List.range z.toNat).map fun h : Nat => ((h : Int) :: old, if (h : Int) = x0 then 0 else r - 1)).map turnD := by
          rw [List.filter_eq_self.mpr fun _ _ => rfl, List.map_map, show (z - 0).toNat = z.toNat by omega]
          rfl
        rw [← e3]
        exact hd
end

/-! ### who may be named at a standing: the program -/
def sp_mayname (K : PySem.W.Frag) : Sp := fun vs H Q _ => ∃ (th sd a : Addr) (s : Int) (y z : V) (ns : List Int), vs = [.ref th, .ref sd, .int s] ∧ SqT K H sd [.ref a, y, z] ∧ SqT K H a (ns.map V.int) ∧ ns.length < 60 ∧
  ∀ (out : List Int) (t : Addr) (J : Hp), Sorted out (ahead s ns) → out.length < 60 → Same H J → J t = some (.tup (out.map V.int)) → Q (.ref t) J
section
variable {P : Program} {w : World} {K : PySem.W.Frag} {mg : Str → Option Value} {base : Heap}
theorem ok_mayname (T : Txt K mg) : FnOk P w K mg base CX0 2 T.a_may_name T.d_may_name ["house", "standing", "server"] (sp_mayname K) := by
  have G_named_by : FnOk P w K mg base CX0 1 T.a_named_by T.d_named_by ["heads", "server"] (sp_named K) := ok_named T
  refine T.F_may_name.ok sc_may_name (fun vs H Q E h => ?_) (fun cdv A outer st H vs Q E hr h => ?_)
  · obtain ⟨th, sd, a, s, y, z, ns, rfl, _⟩ := h
    rfl
  · obtain ⟨th, sd, a, s, y, z, ns, rfl, hs, hx, hl, k⟩ := h
    refine ⟨_, (pss_one (ps_ret (pe_call G_named_by (hr.mono (by omega)) (by rfl) T.g_named_by T.F_named_by.kp T.b_named_by .nil pass0 (pa_cons (pe_ix ix_tup (pv 1) pe_int (fun _ _ => rfl)) (pa_cons (pv 2) pa_nil))))), ?_⟩
    exact ⟨_, rfl, sd, _, 0, _, rfl, rfl, hs, rfl, _, rfl, a, s, ns, rfl, hx, hl, k⟩
end

/-! ### standings, their order -/
abbrev Stg : Type := List Int × Int × (Int × Int × Int)
def stgD (s : Stg) : PyData := .tuple [.tuple (s.1.map PyData.int), .int s.2.1, askerD s.2.2]
def flatS (s : Stg) : List Int := s.1 ++ [s.2.1, s.2.2.1, s.2.2.2.1, s.2.2.2.2]
def leS (p q : Stg) : Bool := !decide (flatS q < flatS p)
theorem flatS_inj {p q : Stg} (h : p.1.length = q.1.length) (e : flatS p = flatS q) : p = q := by
  obtain ⟨a, u, x, y, z⟩ := p
  obtain ⟨b, v, x', y', z'⟩ := q
  obtain ⟨e1, e2⟩ := List.append_inj e h
  have e1 : a = b := e1
  subst e1
  simp only [List.cons.injEq, and_true] at e2
  obtain ⟨rfl, rfl, rfl, rfl⟩ := e2
  rfl
theorem ints_alike15 : ∀ (xs ys : List Int), xs.length = ys.length → PySem.W.alikeAll (xs.map PyData.int) (ys.map PyData.int) = true
  | [], [], _ => by simp [PySem.W.alikeAll]
  | [], _ :: _, h => by simp at h
  | _ :: _, [], h => by simp at h
  | x :: xs, y :: ys, h => by
    have ih := ints_alike15 xs ys (by simpa using h)
    simp [PySem.W.alikeAll, PySem.W.alike, ih]
theorem stg_alike {p q : Stg} (h : p.1.length = q.1.length) : PySem.W.alike (stgD p) (stgD q) = true := by
  have := ints_alike15 p.1 q.1 h
  simp only [stgD, askerD, PySem.W.alike, PySem.W.alikeAll, this, Bool.and_self]
theorem eqv_ints15 : ∀ (a b : List Int), PyData.eqvAll (a.map PyData.int) (b.map PyData.int) = decide (a = b)
  | [], [] => rfl
  | [], _ :: _ => by simp [PyData.eqvAll]
  | _ :: _, [] => by simp [PyData.eqvAll]
  | x :: a, y :: b => by
    have ih := eqv_ints15 a b
    simp only [List.map_cons, PyData.eqvAll, PyData.eqv, ih]
    by_cases h1 : x = y <;> by_cases h2 : a = b <;> simp [h1, h2]
theorem lt_app : ∀ {a b : List Int} (s t : List Int), a.length = b.length → (a ++ s < b ++ t ↔ a < b ∨ (a = b ∧ s < t))
  | [], [], s, t, _ => by
    constructor
    · exact fun h => .inr ⟨rfl, h⟩
    · rintro (h | ⟨_, h⟩)
      · exact absurd h (List.lt_irrefl _)
      · exact h
  | [], _ :: _, _, _, h => by simp at h
  | _ :: _, [], _, _, h => by simp at h
  | x :: a, y :: b, s, t, h => by
    have ih := lt_app (a := a) (b := b) s t (by simpa using h)
    rw [List.cons_append, List.cons_append, List.cons_lt_cons_iff, List.cons_lt_cons_iff, ih]
    constructor
    · rintro (h1 | ⟨rfl, h1 | ⟨rfl, h1⟩⟩)
      · exact .inl (.inl h1)
      · exact .inl (.inr ⟨rfl, h1⟩)
      · exact .inr ⟨rfl, h1⟩
    · rintro ((h1 | ⟨rfl, h1⟩) | ⟨e, h1⟩)
      · exact .inl h1
      · exact .inr ⟨rfl, .inl h1⟩
      · obtain ⟨rfl, rfl⟩ := List.cons.inj e
        exact .inr ⟨rfl, .inr ⟨rfl, h1⟩⟩
theorem lt_stg {p q : Stg} (h : p.1.length = q.1.length) : PySem.W.dataLt (stgD p) (stgD q) = decide (flatS p < flatS q) := by
  have al : PySem.W.alike (.tuple (p.1.map PyData.int)) (.tuple (q.1.map PyData.int)) = true := by
    simp only [PySem.W.alike]
    exact ints_alike15 _ _ h
  have al2 : PySem.W.alike (.int p.2.1) (.int q.2.1) = true := by simp only [PySem.W.alike]
  have al3 : PySem.W.alike (askerD p.2.2) (askerD q.2.2) = true := by simp only [askerD, PySem.W.alike, PySem.W.alikeAll, Bool.and_self]
  have e1 : PyData.eqv (.tuple (p.1.map PyData.int)) (.tuple (q.1.map PyData.int)) = decide (p.1 = q.1) := by
    simp only [PyData.eqv]
    exact eqv_ints15 _ _
  have e2 : PySem.W.dataLt (.tuple (p.1.map PyData.int)) (.tuple (q.1.map PyData.int)) = decide (p.1 < q.1) := by
    rw [PySem.W.dataLt_tuple]
    exact PySem.W.dataLt_ints _ _
  have e3 : PyData.eqv (.int p.2.1) (.int q.2.1) = decide (p.2.1 = q.2.1) := by
    simp only [PyData.eqv]
    by_cases h : p.2.1 = q.2.1 <;> simp [h]
  have ea : ∀ a : Int × Int × Int, askerD a = .tuple ([a.1, a.2.1, a.2.2].map PyData.int) := fun _ => rfl
  have e4 : PyData.eqv (askerD p.2.2) (askerD q.2.2) = decide ([p.2.2.1, p.2.2.2.1, p.2.2.2.2] = [q.2.2.1, q.2.2.2.1, q.2.2.2.2]) := by
    rw [ea, ea]
    simp only [PyData.eqv]
    exact eqv_ints15 _ _
  have e5 : PySem.W.dataLt (askerD p.2.2) (askerD q.2.2) = decide ([p.2.2.1, p.2.2.2.1, p.2.2.2.2] < [q.2.2.1, q.2.2.2.1, q.2.2.2.2]) := by
    rw [ea, ea, PySem.W.dataLt_tuple]
    exact PySem.W.dataLt_ints _ _
  unfold stgD
  rw [PySem.W.dataLt_tuple, PySem.W.dataLt_cons al, PySem.W.dataLt_cons al2, PySem.W.dataLt_cons al3, e1, e2, e3, e4, e5, PySem.W.dataLt_int]
  have nil : PyProof.Rows.lexLt itemOrd (PySem.W.keyToksAll []) (PySem.W.keyToksAll []) = false := lex_irrefl _
  rw [nil]
  have fl : (flatS p < flatS q) ↔ (p.1 < q.1 ∨ (p.1 = q.1 ∧ (p.2.1 < q.2.1 ∨ (p.2.1 = q.2.1 ∧ [p.2.2.1, p.2.2.2.1, p.2.2.2.2] < [q.2.2.1, q.2.2.2.1, q.2.2.2.2])))) := by
    unfold flatS
    rw [lt_app _ _ h, List.cons_lt_cons_iff]
  rw [Bool.eq_iff_iff]
  simp only [decide_eq_true_eq]
  rw [fl]
  by_cases c1 : p.1 = q.1
  · rw [if_pos c1]
    have ir : ¬ p.1 < q.1 := by rw [c1]; exact List.lt_irrefl _
    by_cases c2 : p.2.1 = q.2.1
    · rw [if_pos c2]
      by_cases c3 : [p.2.2.1, p.2.2.2.1, p.2.2.2.2] = [q.2.2.1, q.2.2.2.1, q.2.2.2.2]
      · rw [if_pos c3]
        have ir2 : ¬ [p.2.2.1, p.2.2.2.1, p.2.2.2.2] < [q.2.2.1, q.2.2.2.1, q.2.2.2.2] := by rw [c3]; exact List.lt_irrefl _
        constructor
        · exact fun z => by cases z
        · rintro (z | ⟨_, z | ⟨_, z⟩⟩)
          · exact absurd z ir
          · omega
          · exact absurd z ir2
      · rw [if_neg c3, decide_eq_true_iff]
        constructor
        · exact fun z => .inr ⟨c1, .inr ⟨c2, z⟩⟩
        · rintro (z | ⟨_, z | ⟨_, z⟩⟩)
          · exact absurd z ir
          · omega
          · exact z
    · rw [if_neg c2, decide_eq_true_iff]
      constructor
      · exact fun z => .inr ⟨c1, .inl z⟩
      · rintro (z | ⟨_, z | ⟨z, _⟩⟩)
        · exact absurd z ir
        · exact z
        · exact absurd z c2
  · rw [if_neg c1, decide_eq_true_iff]
    constructor
    · exact fun z => .inl z
    · rintro (z | ⟨z, _⟩)
      · exact z
      · exact absurd z c1
theorem le_stg {p q : Stg} (h : p.1.length = q.1.length) : PySem.W.dataLe false id (stgD p) (stgD q) = leS p q := by
  show (!PySem.W.dataLt (stgD q) (stgD p)) = _
  rw [lt_stg h.symm]
  rfl
theorem leS_total (p q : Stg) : (leS p q || leS q p) = true := by
  unfold leS
  rw [Bool.or_eq_true]
  by_cases h : flatS q < flatS p
  · refine .inr ?_
    rw [decide_eq_false (List.lt_asymm h)]
    rfl
  · refine .inl ?_
    rw [decide_eq_false h]
    rfl
theorem leS_iff {p q : Stg} : leS p q = true ↔ flatS p ≤ flatS q := by
  unfold leS
  rw [Bool.not_eq_true', decide_eq_false_iff_not, List.not_lt]
theorem leS_trans (p q s : Stg) (h1 : leS p q = true) (h2 : leS q s = true) : leS p s = true := leS_iff.mpr (List.le_trans (leS_iff.mp h1) (leS_iff.mp h2))
theorem sort_stg {l : List Stg} {g : Nat} (h : ∀ p ∈ l, p.1.length = g) : (l.map stgD).mergeSort (PySem.W.dataLe false id) = (l.mergeSort leS).map stgD :=
  (List.map_mergeSort fun a ha b hb => (le_stg ((h a ha).trans (h b hb).symm)).symm).symm
theorem leS_perm {l m : List Stg} {g : Nat} (len : ∀ p ∈ l, p.1.length = g) (h : l.Perm m) : l.mergeSort leS = m.mergeSort leS :=
  List.Perm.eq_of_pairwise (le := fun p q => leS p q = true) (fun p q hp hq a b => flatS_inj ((len p ((List.mergeSort_perm l leS).mem_iff.mp hp)).trans (len q (h.mem_iff.mpr ((List.mergeSort_perm m leS).mem_iff.mp hq))).symm) (List.le_antisymm (leS_iff.mp a) (leS_iff.mp b))) (List.pairwise_mergeSort leS_trans leS_total l) (List.pairwise_mergeSort leS_trans leS_total m)
    ((List.mergeSort_perm l leS).trans (h.trans (List.mergeSort_perm m leS).symm))
def unS : PyData → Stg
  | .tuple [.tuple hs, .int u, .tuple [.int a, .int b, .int c]] => (hs.map intD, u, a, b, c)
  | _ => ([], 0, 0, 0, 0)
theorem unS_stg (p : Stg) : unS (stgD p) = p := by
  have e : (p.1.map PyData.int).map intD = p.1 := by
    rw [List.map_map]
    exact (List.map_congr_left fun x _ => rfl).trans (List.map_id _)
  unfold stgD askerD unS
  simp only
  rw [e]
theorem stg_key (s : Stg) : isKeyD (stgD s) = true := by simp only [stgD, askerD, isKeyD, isKeyDs, key_ints, Bool.and_self]
theorem stg_deep (s : Stg) : (stgD s).depth ≤ 3 := by
  simp only [stgD, askerD, PyData.depth, PyData.depthAll, ints_deep]
  decide
/-- sorted data without doubles, told by its set -/
theorem set_stg {D : List PyData} {l : List Stg} {g : Nat} (len : ∀ p ∈ l, p.1.length = g) (ndl : l.Nodup) (nd : D.Nodup) (sub : ∀ d ∈ D, ∃ p ∈ l, d = stgD p) (all : ∀ p ∈ l, stgD p ∈ D) :
    D.mergeSort (PySem.W.dataLe false id) = (l.mergeSort leS).map stgD := by
  have back : (D.map unS).map stgD = D := by
    rw [List.map_map]
    refine (List.map_congr_left fun d hd => ?_).trans (List.map_id _)
    obtain ⟨p, _, rfl⟩ := sub d hd
    show stgD (unS (stgD _)) = _
    rw [unS_stg]
    rfl
  have nd2 : (D.map unS).Nodup := by
    refine List.Pairwise.of_map stgD (S := fun a b => a ≠ b) (fun a b ne e => ne (congrArg stgD e)) ?_
    rw [back]
    exact nd
  have pm : (D.map unS).Perm l := by
    refine (List.perm_ext_iff_of_nodup nd2 ndl).mpr fun p => ⟨fun hp => ?_, fun hp => ?_⟩
    · obtain ⟨d, hd, rfl⟩ := List.mem_map.mp hp
      obtain ⟨q, h1, rfl⟩ := sub d hd
      rw [unS_stg]
      exact h1
    · exact List.mem_map.mpr ⟨_, all p hp, unS_stg _⟩
  have len2 : ∀ p ∈ D.map unS, p.1.length = g := fun p hp => len p (pm.mem_iff.mp hp)
  have e := sort_stg len2
  rw [back] at e
  rw [e, leS_perm len2 pm]

/-! ### the askers to which the deed can lead: the program -/
def AnswOf (z : Int) (row : Row) (named asked : Int) (hs : List Int) (as : List (Int × Int × Int)) : Prop := match askN z row.1 named asked with
  | none => as = [nextA z row named asked 0]
  | some sv => ∃ out, Sorted out (ahead sv hs) ∧ out.length < 60 ∧ as = out.map (nextA z row named asked)
def sp_answered (K : PySem.W.Frag) (tb : Addr) : Sp := fun vs H Q _ => ∃ (h t : V) (sd hd ad : Addr) (z r g : Int) (rs : List Row) (hs : List Int) (u : Int) (i : Nat) (named asked : Int) (row : Row), vs = [h, t, .ref sd] ∧ Dp K H h (houseT z r g) ∧ Dp K H t (tableD rs) ∧ SqT K H sd [.ref hd, .int u, .ref ad] ∧ SqT K H hd (hs.map V.int) ∧ hs.length < 60 ∧ SqT K H ad [.int (i : Int), .int named, .int asked] ∧ rs[i]? = some row ∧ 0 < z ∧ GxR.TabG H tb ∧
  ∀ (ta : Addr) (us : List V) (as : List (Int × Int × Int)) (J : Hp), AnswOf z row named asked hs as → Grow H J → SqT K J ta us → DpAll K J us (as.map askerD) → Q (.ref ta) J
section
variable {P : Program} {w : World} {K : PySem.W.Frag} {mg : Str → Option Value} {base : Heap}
theorem ok_answered (T : Txt K mg) (TB : GxR.TabB base mg T.c_answered T.p_answered) : FnOk P w K mg base CX0 12 T.a_answered T.d_answered ["house", "table", "standing"] (sp_answered K T.p_answered) := by
  have G_asks : FnOk P w K mg base CX0 1 T.a_asks T.d_asks ["house", "table", "asker"] (sp_asks K) := ok_asks T
  have G_behind : FnOk P w K mg base CX0 2 T.a_behind T.d_behind ["house", "table", "asker", "name"] (sp_behind K) := ok_behind T
  have G_may_name : FnOk P w K mg base CX0 2 T.a_may_name T.d_may_name ["house", "standing", "server"] (sp_mayname K) := ok_mayname T
  refine Fun.okC T.F_answered T.h_answered sc_answered (fun vs H Q E h => ?_) (fun A outer s H vs Q E hr h => ?_)
  · obtain ⟨h, t, sd, hd, ad, z, r, g, rs, hs, u, i, named, asked, row, rfl, _⟩ := h
    rfl
  · obtain ⟨h, t, sd, hd, ad, z, r, g, rs, hs, u, i, named, asked, row, rfl, hh, ht, hsd, hhd, l60, had, hrow, z0, hT, k⟩ := h
    refine ⟨_, (pss_cons (ps_set (i := 3) sc_answered.nd rfl (Or.inr rfl) (pe_ix ix_tup (pv 2) pe_int (fun _ _ => rfl)))
      (pss_cons (ps_set (i := 4) sc_answered.nd rfl (Or.inl rfl) (pe_call G_asks (hr.mono (by omega)) (by rfl) T.g_asks T.F_asks.kp T.b_asks .nil pass0 (pa_cons (pv 0) (pa_cons (pv 1) (pa_cons (pv 3) pa_nil)))))
      (pss_cons (ps_if (pt_cmpR op_isN (pv 4) pe_non (nomark _))
        (pss_one (ps_ret (pe_tup (pa_cons (pe_call G_behind (hr.mono (by omega)) (by rfl) T.g_behind T.F_behind.kp T.b_behind .nil pass0 (pa_cons (pv 0) (pa_cons (pv 1) (pa_cons (pv 3) (pa_cons pe_int pa_nil))))) pa_nil))))
        pss_nil)
      (pss_one (ps_ret (pe_tupC (c := T.c_answered) (T := T.p_answered) (k := 3) (xs := ["name"]) (ys := ["house", "table", "asker"]) (caps := [0, 1, 3]) (hr.mono (by omega)) (by rfl) T.m_tuple TB rfl ⟨rfl, rfl, by decide +kernel, rfl, gen_free (by decide +kernel)⟩ (pi_tup (pe_call G_may_name (hr.mono (by omega)) (by rfl) T.g_may_name T.F_may_name.kp T.b_may_name .nil pass0 (pa_cons (pv 0) (pa_cons (pv 2) (pa_cons (pv 4) pa_nil))))) (fun _ => rfl) (by rfl) rfl (fun _ _ _ _ _ _ _ => (pg_name (i := 0) (show (["name", "house", "table", "asker"] : List Str).Nodup by decide +kernel) rfl (Or.inl rfl))) (fun _ _ _ _ _ _ _ hr => (pe_call G_behind (hr.mono (by omega)) (by rfl) T.g_behind T.F_behind.kp T.b_behind .nil pass0 (pa_cons (pv 1) (pa_cons (pv 2) (pa_cons (pv 3) (pa_cons (pv 0) pa_nil)))))) rfl)))))), ?_⟩
    obtain ⟨th, rfl, sh⟩ := dp_three hh
    have dA : Dp K H (.ref ad) (askerD ((i : Int), named, asked)) := .tup had (.cons (.int _) (.cons (.int _) (.cons (.int _) .nil)))
    refine ⟨_, rfl, sd, _, 2, _, rfl, rfl, hsd, rfl, ?_⟩
    refine ⟨_, rfl, _, rfl, _, rfl, .ref th, t, .ref ad, z, r, g, rs, i, named, asked, row, rfl, hh, ht, dA, hrow, z0, ?_⟩
    refine ⟨_, rfl, rfl, _, rfl, ?_⟩
    have eA : ∀ as, AnswOf z row named asked hs as ↔ match askN z row.1 named asked with
      | none => as = [nextA z row named asked 0]
      | some sv => ∃ out, Sorted out (ahead sv hs) ∧ out.length < 60 ∧ as = out.map (nextA z row named asked) := fun _ => Iff.rfl
    cases ea : askN z row.1 named asked with
    | none =>
      rw [ea] at eA
      refine iteT ?_
      refine ⟨_, rfl, _, rfl, _, rfl, .ref th, t, .ref ad, z, r, g, rs, i, named, asked, 0, row, rfl, hh, ht, dA, hrow, z0, fun q hq => ⟨by show 1 ≤ sizeLine; decide, fun l hl => ?_⟩⟩
      have G1 : Grow H (upd H q (.tup [.int (nextA z row named asked 0).1, .int (nextA z row named asked 0).2.1, .int (nextA z row named asked 0).2.2])) := Grow.new hq
      have Q1 : (upd H q (.tup [.int (nextA z row named asked 0).1, .int (nextA z row named asked 0).2.1, .int (nextA z row named asked 0).2.2])) q = some (.tup [.int (nextA z row named asked 0).1, .int (nextA z row named asked 0).2.1, .int (nextA z row named asked 0).2.2]) := upd_same
      generalize upd H q (.tup [.int (nextA z row named asked 0).1, .int (nextA z row named asked 0).2.1, .int (nextA z row named asked 0).2.2]) = J1 at G1 Q1 hl ⊢
      have G2 : Grow J1 (upd J1 l (.tup [.ref q])) := Grow.new hl
      exact k l _ _ _ ((eA _).mpr rfl) (G1.trans G2) (SqT.of upd_same) (.cons (.tup (G2.tup (SqT.of Q1)) (.cons (.int _) (.cons (.int _) (.cons (.int _) .nil)))) .nil)
    | some sv =>
      rw [ea] at eA
      refine iteF ?_
      refine ⟨_, rfl, _, rfl, _, rfl, th, sd, hd, sv, _, _, hs, rfl, hsd, hhd, l60, fun out t2 J so lo S2 ht2 => ?_⟩
      have GJ := Grow.of_same S2
      refine ⟨t2, rfl, ⟨_, SqT.of ht2⟩, GJ.t.tab hT, fun H2 G2 => ?_⟩
      have t2H : SqT K H2 t2 (out.map V.int) := G2.tup (SqT.of ht2)
      refine ⟨fun i ys G => Grow H2 G ∧ ys.length = i ∧ i ≤ out.length ∧ DpAll K G ys ((out.take i).map fun n => askerD (nextA z row named asked n)), ⟨Grow.refl _, rfl, Nat.zero_le _, .nil⟩, fun i2 ys G ⟨g2, ly, li, dy⟩ => ?_⟩
      have sz : out.length ≤ sizeLine := Nat.le_trans (by omega : _ ≤ 100) (by decide)
      have tG := g2.tup t2H
      by_cases e : i2 = out.length
      · refine .inl ⟨⟨_, tG, by rw [List.length_map]; omega⟩, by omega, fun tt htt => ?_⟩
        rw [e, List.take_length] at dy
        have G3 : Grow G (upd G tt (.tup ys)) := Grow.new htt
        refine k tt ys _ _ ((eA _).mpr ⟨out, so, lo, rfl⟩) (((GJ.trans G2).trans g2).trans G3) (SqT.of upd_same) ?_
        rw [List.map_map]
        exact growDpAll G3 _ _ dy
      · have il : i2 < out.length := by omega
        have oi : out[i2]? = some out[i2] := List.getElem?_eq_getElem il
        have mi : (out.map V.int)[i2]? = some (.int out[i2]) := by rw [List.getElem?_map, oi]; rfl
        refine .inr ⟨⟨_, _, tG, mi⟩, by omega, fun x G' τ lτ hy => ?_⟩
        obtain ⟨rfl, hx⟩ := hy
        have ex : x = .int out[i2] := by
          have := hx _ tG
          rw [mi] at this
          exact (Option.some.inj this).symm
        subst ex
        obtain ⟨y0, rfl⟩ : ∃ y, τ = [y] := by
          match τ, lτ with
          | [y], _ => exact ⟨y, rfl⟩
        have GH := (GJ.trans G2).trans g2
        refine ⟨⟨[some (.int out[i2])], rfl, rfl⟩, ?_⟩
        refine ⟨_, rfl, _, rfl, _, rfl, _, rfl, .ref th, t, .ref ad, z, r, g, rs, i, named, asked, out[i2], row, rfl, growDp GH _ _ hh, growDp GH _ _ ht, growDp GH _ _ dA, hrow, z0, fun q hq => ?_⟩
        have G3 : Grow G' (upd G' q (.tup [.int (nextA z row named asked out[i2]).1, .int (nextA z row named asked out[i2]).2.1, .int (nextA z row named asked out[i2]).2.2])) := Grow.new hq
        refine ⟨g2.trans G3, by rw [List.length_append, List.length_singleton, ly], il, ?_⟩
        rw [List.take_add_one, oi, List.map_append]
        exact dpAll_append (growDpAll G3 _ _ dy) (.cons (.tup (SqT.of upd_same) (.cons (.int _) (.cons (.int _) (.cons (.int _) .nil)))) .nil)
end

/-! ### where a standing can lead: the program -/
def prodS (ts : List (List Int × Int)) (as : List (Int × Int × Int)) : List Stg := ts.flatMap fun t => as.map fun a => (t.1, t.2, a)
theorem prodS_app (ts us : List (List Int × Int)) (as : List (Int × Int × Int)) : prodS (ts ++ us) as = prodS ts as ++ prodS us as := List.flatMap_append
theorem dp_turn15 {K : PySem.W.Frag} {H : Hp} {v : V} {q : List Int × Int} (h : Dp K H v (turnD q)) : ∃ b c : Addr, v = .ref b ∧ SqT K H b [.ref c, .int q.2] ∧ SqT K H c (q.1.map V.int) := by
  unfold turnD at h
  cases h with
  | tup h1 h2 =>
  cases h2 with
  | cons a h2 =>
  cases h2 with
  | cons b h2 =>
  cases h2
  cases b
  cases a with
  | tup a1 a2 =>
  rw [dp_ints a2] at a1
  exact ⟨_, _, rfl, h1, a1⟩
theorem turnsK_len15 {z r u : Int} {hs : List Int} (h : hs ≠ []) {q : List Int × Int} (m : q ∈ turnsK z r hs u) : q.1.length = hs.length := by
  have lp : 0 < hs.length := List.length_pos_iff.mpr h
  unfold turnsK at m
  split at m
  · rw [List.mem_singleton.mp m]
    show (_ :: hs.take (hs.length - 1)).length = _
    rw [List.length_cons, List.length_take]
    omega
  · obtain ⟨i, _, rfl⟩ := List.mem_map.mp m
    show (_ :: hs.take (hs.length - 1)).length = _
    rw [List.length_cons, List.length_take]
    omega
theorem turnsK_many15 {z r u : Int} {hs : List Int} (z9 : z ≤ 9) : (turnsK z r hs u).length ≤ 9 := by
  unfold turnsK
  split
  · simp
  · rw [List.length_map, List.length_range]
    omega
theorem turn_key15 (q : List Int × Int) : isKeyD (turnD q) = true := by simp only [turnD, isKeyD, isKeyDs, key_ints, Bool.and_self]
theorem asker_key (a : Int × Int × Int) : isKeyD (askerD a) = true := by simp only [askerD, isKeyD, isKeyDs, Bool.and_self]
theorem prodS_len {ts : List (List Int × Int)} {as : List (Int × Int × Int)} : (prodS ts as).length = ts.length * as.length := by
  induction ts with
  | nil => simp [prodS]
  | cons t ts ih =>
    have : prodS (t :: ts) as = (as.map fun a => (t.1, t.2, a)) ++ prodS ts as := rfl
    rw [this, List.length_append, List.length_map, ih, List.length_cons, Nat.succ_mul]
    omega
theorem answ_len {z : Int} {row : Row} {named asked : Int} {hs : List Int} {as : List (Int × Int × Int)} (h : AnswOf z row named asked hs as) : as.length ≤ 60 := by
  unfold AnswOf at h
  split at h
  · rw [h, List.length_singleton]; decide
  · obtain ⟨out, _, lo, rfl⟩ := h
    rw [List.length_map]
    omega
def sp_goes (K : PySem.W.Frag) (tb tb2 : Addr) : Sp := fun vs H Q _ => ∃ (h t : V) (sd hd ad : Addr) (z r g : Int) (rs : List Row) (hs : List Int) (u : Int) (i : Nat) (named asked : Int) (row : Row), vs = [h, t, .ref sd] ∧ Dp K H h (houseT z r g) ∧ Dp K H t (tableD rs) ∧ SqT K H sd [.ref hd, .int u, .ref ad] ∧ SqT K H hd (hs.map V.int) ∧ hs ≠ [] ∧ hs.length < 60 ∧ SqT K H ad [.int (i : Int), .int named, .int asked] ∧ rs[i]? = some row ∧ 0 < z ∧ z ≤ 9 ∧ GxR.TabG H tb ∧ GxR.TabG H tb2 ∧
  ∀ (ta : Addr) (us : List V) (as : List (Int × Int × Int)) (J : Hp), AnswOf z row named asked hs as → Grow H J → J ta = some (.tup us) → DpAll K J us (((prodS (turnsK z r hs u) as).mergeSort leS).map stgD) → Q (.ref ta) J
section
variable {P : Program} {w : World} {K : PySem.W.Frag} {mg : Str → Option Value} {base : Heap}
theorem ok_goes (T : Txt K mg) (TB : GxR.TabB base mg T.c_turns T.p_turns) (TB2 : GxR.TabB base mg T.c_answered T.p_answered) : FnOk P w K mg base CX0 13 T.a_goes_to T.d_goes_to ["house", "table", "standing"] (sp_goes K T.p_turns T.p_answered) := by
  have G_turns : FnOk P w K mg base CX0 1 T.a_turns T.d_turns ["house", "heads", "hold"] (sp_turns K T.p_turns) := ok_turns T TB
  have G_answered : FnOk P w K mg base CX0 12 T.a_answered T.d_answered ["house", "table", "standing"] (sp_answered K T.p_answered) := ok_answered T TB2
  refine T.F_goes_to.ok sc_goes_to (fun vs H Q E h => ?_) (fun cdv A outer s H vs Q E hr h => ?_)
  · obtain ⟨h, t, sd, hd, ad, z, r, g, rs, hs, u, i, named, asked, row, rfl, _⟩ := h
    rfl
  · obtain ⟨h, t, sd, hd, ad, z, r, g, rs, hs, u, i, named, asked, row, rfl, hh, ht, hsd, hhd, hne, l60, had, hrow, z0, z9, hT, hT2, k⟩ := h
    refine ⟨_, (pss_cons (ps_asg (pv 2) (pg_tup (by rfl) (pgs_cons (pg_name (i := 3) sc_goes_to.nd rfl (Or.inl rfl)) (pgs_cons (pg_name (i := 4) sc_goes_to.nd rfl (Or.inl rfl)) (pgs_cons (pg_name (i := 5) sc_goes_to.nd rfl (Or.inl rfl)) pgs_nil)))))
      (pss_cons (ps_set (i := 6) sc_goes_to.nd rfl (Or.inr rfl) (pe_call G_answered (hr.mono (by omega)) (by rfl) T.g_answered T.F_answered.kp T.b_answered .nil pass0 (pa_cons (pv 0) (pa_cons (pv 1) (pa_cons (pv 2) pa_nil)))))
      (pss_one (ps_ret (pe_callTy (T := "tuple") call_tuple_of (by rfl) T.m_tuple (by decide +kernel) (pa_cons (pe_callB (id := "sorted") (cr_sortD (hu64 hr)) (by rfl) T.m_sorted (by decide +kernel) (pa_cons (pe_lc2 (own := [("row", 7), ("stays", 8), ("asker", 9)]) (vs1 := [9]) (g := gTup K 2 (gCons (gName 7) (gCons (gName 8) gNil))) (g1 := gName 9) (by rfl) sc_goes_to.nd (pi_tup (pe_call G_turns (hr.mono (by omega)) (by rfl) T.g_turns T.F_turns.kp T.b_turns .nil pass0 (pa_cons (pv 0) (pa_cons (pv 3) (pa_cons (pv 4) pa_nil))))) (blkOk_by (own := [("row", 7), ("stays", 8), ("asker", 9)]) (N := ["house", "table", "standing", "heads", "hold", "_", "askers", "row", "stays", "asker"]) (sc := defScope s_goes_to) (by decide +kernel)) (by decide) (fun _ _ _ _ _ => (pg_pairK K (i := 7) (j := 8) rfl rfl sc_goes_to.nd rfl (Or.inl rfl) rfl (Or.inl rfl))) (fun _ _ _ _ _ => pts_nil) (fun _ _ _ _ _ => (pi_tupK K rfl (pv 6))) (fun _ _ _ _ _ => (pg_name (i := 9) sc_goes_to.nd rfl (Or.inl rfl))) (fun _ _ _ _ _ => pts_nil) (fun _ _ _ _ _ => (pe_tup (pa_cons (pv 7) (pa_cons (pv 8) (pa_cons (pv 9) pa_nil)))))) pa_nil)) pa_nil)))))), ?_⟩
    obtain ⟨th, rfl, sh⟩ := dp_three hh
    refine ⟨_, rfl, sd, _, rfl, hsd, rfl, _, _, rfl, _, _, rfl, _, _, rfl, rfl, ?_⟩
    refine ⟨_, rfl, _, rfl, _, rfl, .ref th, t, sd, hd, ad, z, r, g, rs, hs, u, i, named, asked, row, rfl, hh, ht, hsd, hhd, l60, had, hrow, z0, hT2, fun ta us as J ans GJ hta dus => ?_⟩
    have lus := dpAll_len dus
    rw [List.length_map] at lus
    have las := answ_len ans
    refine ⟨_, rfl, _, rfl, _, rfl, th, hd, z, r, g, u, hs, rfl, GJ.tup sh, by omega, z9, GJ.tup hhd, hne, l60, GJ.t.tab hT, fun tt ts M GM htt dts => ?_⟩
    have GHM := GJ.trans GM
    have lts := dpAll_len dts
    rw [List.length_map] at lts
    have l9 := turnsK_many15 (z := z) (r := r) (u := u) (hs := hs) z9
    refine ⟨tt, rfl, ⟨_, htt⟩, fun D hD => ?_⟩
    have usT : SqT K M ta us := GM.tup hta
    have dusM := growDpAll GM _ _ dus
    refine turns_it (walk_tup (K := K) (a := tt) (xs := ts)) (fun k L => ∃ vs : List V, Grow H L ∧ SqT K L tt ts ∧ DpAll K L ts ((turnsK z r hs u).map turnD) ∧ SqT K L ta us ∧ DpAll K L us (as.map askerD) ∧ L D = some (.lst vs) ∧ vs.length = (prodS ((turnsK z r hs u).take k) as).length ∧ DpAll K L vs ((prodS ((turnsK z r hs u).take k) as).map stgD)) ⟨[], GHM.trans (Grow.new hD), (Grow.new hD).tup htt, growDpAll (Grow.new hD) _ _ dts, (Grow.new hD).tup usT, growDpAll (Grow.new hD) _ _ dusM, upd_same, rfl, .nil⟩ (fun k L _ ⟨_, _, hL, _⟩ => hL) ?_ ?_
    · rintro m v L L' hm ⟨vs, GL, httL, dtsL, usL, dusL, hL, lv, dv⟩ ⟨rfl, hv⟩
      obtain ⟨d2, hd2, dx0⟩ := dpAll_get dtsL hv
      rw [List.getElem?_map] at hd2
      obtain ⟨q, hq, rfl⟩ := Option.map_eq_some_iff.mp hd2
      obtain ⟨b2, c2, rfl, hb2, hc2⟩ := dp_turn15 dx0
      have mlt : m < (turnsK z r hs u).length := (List.getElem?_eq_some_iff.mp hq).1
      refine ⟨b2, _, rfl, hb2, rfl, _, _, rfl, _, _, rfl, rfl, ?_⟩
      refine ⟨rfl, ?_⟩
      unfold tYes
      refine iteT ⟨_, rfl, ta, rfl, ⟨_, usL⟩, ?_⟩
      have et : (turnsK z r hs u).take (m + 1) = (turnsK z r hs u).take m ++ [q] := by rw [List.take_add_one, hq]; rfl
      have one : ∀ xs : List (Int × Int × Int), prodS [q] xs = xs.map fun a => (q.1, q.2, a) := fun xs => by simp [prodS]
      have small : (prodS ((turnsK z r hs u).take m) as).length ≤ 9 * 60 := by
        rw [prodS_len]
        exact Nat.mul_le_mul (by rw [List.length_take]; omega) las
      refine turns_it (walk_tup (K := K) (a := ta) (xs := us)) (fun j N => ∃ ws : List V, Grow H N ∧ SqT K N tt ts ∧ DpAll K N ts ((turnsK z r hs u).map turnD) ∧ SqT K N ta us ∧ DpAll K N us (as.map askerD) ∧ SqT K N c2 (q.1.map V.int) ∧ N D = some (.lst ws) ∧ ws.length = (prodS ((turnsK z r hs u).take m) as).length + j ∧ DpAll K N ws ((prodS ((turnsK z r hs u).take m) as ++ (as.take j).map fun a => (q.1, q.2, a)).map stgD)) ⟨vs, GL, httL, dtsL, usL, dusL, hc2, hL, by omega, by rw [List.take_zero, List.map_nil, List.append_nil]; exact dv⟩ (fun _ _ _ ⟨_, _, _, _, h, _⟩ => h) ?_ ?_
      · rintro j x N N' hj ⟨ws, GN, ttN, dtN, usN, duN, c2N, hN, lw, dw⟩ ⟨rfl, hx⟩
        obtain ⟨d3, hd3, dx3⟩ := dpAll_get duN hx
        rw [List.getElem?_map] at hd3
        obtain ⟨ak, hak, rfl⟩ := Option.map_eq_some_iff.mp hd3
        have jlt : j < as.length := (List.getElem?_eq_some_iff.mp hak).1
        refine ⟨rfl, ?_⟩
        refine iteT ⟨_, rfl, _, rfl, _, rfl, by show 3 ≤ sizeLine; decide, fun t3 ht3 => ?_⟩
        have S3 : Grow N' (upd N' t3 (.tup [.ref c2, .int q.2, x])) := Grow.new ht3
        have T3 : (upd N' t3 (.tup [.ref c2, .int q.2, x])) t3 = some (.tup [.ref c2, .int q.2, x]) := upd_same
        show ∃ acc, (upd N' t3 (.tup [.ref c2, .int q.2, x])) D = _ ∧ _
        generalize upd N' t3 (.tup [.ref c2, .int q.2, x]) = N3 at S3 T3 ⊢
        have hN3 := S3.at hN
        have dn : Dp K N3 (.ref t3) (stgD (q.1, q.2, ak)) := .tup (SqT.of T3) (.cons (.tup (S3.tup c2N) (ints_dp _)) (.cons (.int _) (.cons (growDp S3 _ _ dx3) .nil)))
        have e4 : (as.take (j + 1)).map (fun a => ((q.1, q.2, a) : Stg)) = (as.take j).map (fun a => ((q.1, q.2, a) : Stg)) ++ [(q.1, q.2, ak)] := by rw [List.take_add_one, hak, List.map_append]; rfl
        refine ⟨ws, hN3, Nat.lt_of_lt_of_le (by omega : ws.length < 1000) (by decide), ws ++ [.ref t3], (GN.trans S3).write (GHM.free hD), sqT_upd (S3.tup ttN) hN3, keyPutAll hN3 _ _ (keys_all fun d hd => ?_) (growDpAll S3 _ _ dtN), sqT_upd (S3.tup usN) hN3, keyPutAll hN3 _ _ (keys_all fun d hd => ?_) (growDpAll S3 _ _ duN), sqT_upd (S3.tup c2N) hN3, upd_same, by rw [List.length_append, List.length_singleton]; omega, ?_⟩
        · obtain ⟨y, _, rfl⟩ := List.mem_map.mp hd
          exact turn_key15 y
        · obtain ⟨y, _, rfl⟩ := List.mem_map.mp hd
          exact asker_key y
        · rw [e4, ← List.append_assoc, List.map_append (l₁ := _ ++ _)]
          refine dpAll_append (keyPutAll hN3 _ _ (keys_all fun d hd => ?_) (growDpAll S3 _ _ dw)) (.cons (keyPut hN3 _ _ (stg_key _) dn) .nil)
          obtain ⟨y, _, rfl⟩ := List.mem_map.mp hd
          exact stg_key y
      · rintro N ⟨ws, GN, ttN, dtN, usN, duN, c2N, hN, lw, dw⟩
        have lus2 : us.length = as.length := lus
        refine ⟨ws, GN, ttN, dtN, usN, duN, hN, ?_, ?_⟩
        · rw [et, prodS_app, one, List.length_append, List.length_map]
          omega
        · rw [et, prodS_app, one]
          rw [lus2, List.take_length] at dw
          exact dw
    · rintro L ⟨vs, GL, httL, dtsL, usL, dusL, hL, lv, dv⟩
      rw [lts, List.take_length] at dv lv
      have len : ∀ p ∈ prodS (turnsK z r hs u) as, p.1.length = hs.length := fun p hp => by
        obtain ⟨q, hq, hp⟩ := List.mem_flatMap.mp hp
        obtain ⟨a, _, rfl⟩ := List.mem_map.mp hp
        exact turnsK_len15 hne hq
      have form : ∀ d ∈ (prodS (turnsK z r hs u) as).map stgD, ∃ p : Stg, p.1.length = hs.length ∧ d = stgD p := fun d hd => by
        obtain ⟨p, hp, rfl⟩ := List.mem_map.mp hd
        exact ⟨p, len p hp, rfl⟩
      refine ⟨D, vs, _, rfl, SqL.of hL, dv, fun d hd d' hd' => ?_, .inl fun d hd => ?_, fun d hd => ?_, fun p ys ly hyd hp => ?_⟩
      · obtain ⟨p, l1, rfl⟩ := form d hd
        obtain ⟨q, l2, rfl⟩ := form d' hd'
        exact stg_alike (l1.trans l2.symm)
      · obtain ⟨p, l1, rfl⟩ := form d hd
        exact ⟨_, _, rfl⟩
      · obtain ⟨p, l1, rfl⟩ := form d hd
        exact Nat.le_trans (stg_deep _) (by decide)
      · rw [sort_stg len] at hyd
        have GP : Grow L (upd L p (.lst ys)) := Grow.new hp
        refine ⟨p, ys, rfl, .inl ⟨SqL.of upd_same, fun l hl => ?_⟩⟩
        have GQ := GP.trans (Grow.new (o := .tup ys) hl)
        exact k l ys as _ ans (GL.trans GQ) upd_same (growDpAll GQ _ _ hyd)
end

/-! ### surely served, in a graph -/
section
variable {α : Type} {nx : α → List α} {c : α → Int}
def Rk (nx : α → List α) : Nat → α → Prop
  | 0, _ => False
  | n + 1, s => ∀ t ∈ nx s, Rk nx n t
theorem Rk.up : ∀ {n m : Nat} {s : α}, Rk nx n s → n ≤ m → Rk nx m s
  | 0, _, _, h, _ => h.elim
  | n + 1, 0, _, _, l => absurd l (by omega)
  | n + 1, m + 1, s, h, l => fun t ht => Rk.up (h t ht) (by omega)
def Srv (nx : α → List α) (s : α) : Prop := ∃ n, Rk nx n s
theorem srv_all : ∀ {l : List α}, (∀ t ∈ l, Srv nx t) → ∃ n, ∀ t ∈ l, Rk nx n t
  | [], _ => ⟨0, fun t ht => absurd ht List.not_mem_nil⟩
  | x :: l, h => by
    obtain ⟨n, hn⟩ := srv_all fun t ht => h t (List.mem_cons_of_mem _ ht)
    obtain ⟨m, hm⟩ := h x List.mem_cons_self
    refine ⟨n + m, fun t ht => ?_⟩
    rcases List.mem_cons.mp ht with rfl | ht
    · exact hm.up (by omega)
    · exact (hn t ht).up (by omega)
theorem srv_iff {s : α} : Srv nx s ↔ ∀ t ∈ nx s, Srv nx t := by
  constructor
  · rintro ⟨n, h⟩ t ht
    cases n with
    | zero => exact h.elim
    | succ n => exact ⟨n, h t ht⟩
  · intro h
    obtain ⟨n, hn⟩ := srv_all h
    exact ⟨n + 1, hn⟩
/-- the greatest of some numbers and 0 -/
def maxL : List Int → Int
  | [] => 0
  | x :: l => max x (maxL l)
theorem maxL_ge : ∀ {l : List Int}, 0 ≤ maxL l ∧ ∀ x ∈ l, x ≤ maxL l
  | [] => ⟨Int.le_refl _, fun x hx => absurd hx List.not_mem_nil⟩
  | y :: l => by
    obtain ⟨h0, h1⟩ := maxL_ge (l := l)
    refine ⟨by unfold maxL; omega, fun x hx => ?_⟩
    unfold maxL
    rcases List.mem_cons.mp hx with rfl | hx
    · omega
    · have := h1 x hx
      omega
theorem maxL_mem : ∀ {l : List Int}, maxL l = 0 ∨ maxL l ∈ l
  | [] => .inl rfl
  | y :: l => by
    unfold maxL
    by_cases c : maxL l ≤ y
    · exact .inr (by rw [show max y (maxL l) = y by omega]; exact List.mem_cons_self)
    · rw [show max y (maxL l) = maxL l by omega]
      rcases maxL_mem (l := l) with h | h
      · exact .inl h
      · exact .inr (List.mem_cons_of_mem _ h)
theorem maxL_is {l : List Int} {m : Int} (pos : ∀ x ∈ l, 0 ≤ x) (h0 : l = [] → m = 0) (h1 : l ≠ [] → m ∈ l ∧ ∀ x ∈ l, x ≤ m) : m = maxL l := by
  by_cases e : l = []
  · rw [h0 e, e]
    rfl
  · obtain ⟨a, b⟩ := h1 e
    obtain ⟨u0, u1⟩ := maxL_ge (l := l)
    have := u1 m a
    rcases maxL_mem (l := l) with h | h
    · have := pos m a
      omega
    · have := b _ h
      omega
theorem maxL_set {l m : List Int} (h : ∀ x, x ∈ l ↔ x ∈ m) : maxL l = maxL m := by
  have one : ∀ {a b : List Int}, (∀ x, x ∈ a ↔ x ∈ b) → maxL a ≤ maxL b := fun {a b} h => by
    rcases maxL_mem (l := a) with e | e
    · rw [e]
      exact (maxL_ge (l := b)).1
    · exact (maxL_ge (l := b)).2 _ ((h _).mp e)
  have := one h
  have := one fun x => (h x).symm
  omega
/-- the greatest sum of costs until served -/
def valN (nx : α → List α) (c : α → Int) : Nat → α → Int
  | 0, _ => 0
  | n + 1, s => c s + maxL ((nx s).map (valN nx c n))
theorem valN_up : ∀ {n m : Nat} {s : α}, Rk nx n s → n ≤ m → valN nx c m s = valN nx c n s
  | 0, _, _, h, _ => h.elim
  | n + 1, 0, _, _, l => absurd l (by omega)
  | n + 1, m + 1, s, h, l => by
    show c s + maxL ((nx s).map (valN nx c m)) = c s + maxL ((nx s).map (valN nx c n))
    rw [List.map_congr_left fun t ht => valN_up (h t ht) (by omega)]
theorem valN_pos (hc : ∀ s, 0 ≤ c s) : ∀ (n : Nat) (s : α), 0 ≤ valN nx c n s
  | 0, _ => Int.le_refl _
  | n + 1, s => by
    have := hc s
    have := (maxL_ge (l := (nx s).map (valN nx c n))).1
    show 0 ≤ c s + maxL ((nx s).map (valN nx c n))
    omega
def Val (nx : α → List α) (c : α → Int) (s : α) (v : Int) : Prop := ∃ n, Rk nx n s ∧ v = valN nx c n s
theorem Val.one {s : α} {v u : Int} (h : Val nx c s v) (k : Val nx c s u) : v = u := by
  obtain ⟨n, h1, rfl⟩ := h
  obtain ⟨m, k1, rfl⟩ := k
  rw [← valN_up (m := n + m) h1 (by omega), ← valN_up (m := n + m) k1 (by omega)]
theorem Val.srv {s : α} {v : Int} (h : Val nx c s v) : Srv nx s := let ⟨n, h1, _⟩ := h; ⟨n, h1⟩
theorem Srv.val {s : α} (h : Srv nx s) : ∃ v, Val nx c s v := let ⟨n, h1⟩ := h; ⟨_, n, h1, rfl⟩
theorem Val.pos (hc : ∀ s, 0 ≤ c s) {s : α} {v : Int} (h : Val nx c s v) : 0 ≤ v := by
  obtain ⟨n, _, rfl⟩ := h
  exact valN_pos hc n s
theorem Val.step {s : α} {f : α → Int} (h : ∀ t ∈ nx s, Val nx c t (f t)) : Val nx c s (c s + maxL ((nx s).map f)) := by
  obtain ⟨n, hn⟩ := srv_all fun t ht => (h t ht).srv
  refine ⟨n + 1, hn, ?_⟩
  show c s + maxL ((nx s).map f) = c s + maxL ((nx s).map (valN nx c n))
  rw [List.map_congr_left fun t ht => (h t ht).one ⟨n, hn t ht, rfl⟩]
theorem Val.steps {s : α} {vs : List Int} (h : Paired (fun (t : α) (v : Int) => Val nx c t v) (nx s) vs) : Val nx c s (c s + maxL vs) := by
  have key : ∀ {l : List α} {vs : List Int}, Paired (fun (t : α) (v : Int) => Val nx c t v) l vs → ∃ n, (∀ t ∈ l, Rk nx n t) ∧ ∀ m, n ≤ m → vs = l.map (valN nx c m) := by
    intro l vs h
    induction h with
    | nil => exact ⟨0, fun t ht => absurd ht List.not_mem_nil, fun _ _ => rfl⟩
    | cons r _ ih =>
      obtain ⟨n, h1, h2⟩ := ih
      obtain ⟨k, k1, rfl⟩ := r
      refine ⟨n + k, fun t ht => ?_, fun m hm => ?_⟩
      · rcases List.mem_cons.mp ht with rfl | ht
        · exact k1.up (by omega)
        · exact (h1 t ht).up (by omega)
      · rw [List.map_cons, ← h2 m (by omega), valN_up (m := m) k1 (by omega)]
  obtain ⟨n, h1, h2⟩ := key h
  refine ⟨n + 1, h1, ?_⟩
  rw [h2 n (Nat.le_refl _)]
  rfl
theorem rk_val {s : α} {v : Int} (h : Val nx (fun _ => 1) s v) : ∀ n : Nat, Rk nx n s ↔ v ≤ (n : Int) := by
  obtain ⟨m, hm, rfl⟩ := h
  have low : ∀ (n : Nat) (s : α), Rk nx n s → valN nx (fun _ => 1) n s ≤ (n : Int) := by
    intro n
    induction n with
    | zero => exact fun s h => h.elim
    | succ n ih =>
      intro s h
      show 1 + maxL ((nx s).map (valN nx (fun _ => 1) n)) ≤ ((n + 1 : Nat) : Int)
      rcases maxL_mem (l := (nx s).map (valN nx (fun _ => 1) n)) with e | e
      · rw [e]
        omega
      · obtain ⟨t, ht, et⟩ := List.mem_map.mp e
        have := ih t (h t ht)
        omega
  have high : ∀ (m : Nat) (s : α), Rk nx m s → ∀ n : Nat, valN nx (fun _ => 1) m s ≤ (n : Int) → Rk nx n s := by
    intro m
    induction m with
    | zero => exact fun s h => h.elim
    | succ m ih =>
      intro s h n le
      have le : 1 + maxL ((nx s).map (valN nx (fun _ => 1) m)) ≤ (n : Int) := le
      have g := maxL_ge (l := (nx s).map (valN nx (fun _ => 1) m))
      cases n with
      | zero => omega
      | succ n =>
        intro t ht
        have := g.2 _ (List.mem_map_of_mem ht)
        exact ih t (h t ht) n (by omega)
  intro n
  constructor
  · intro h
    have e := valN_up (c := fun _ => 1) (m := n + m) h (by omega)
    have e2 := valN_up (c := fun _ => 1) (m := n + m) hm (by omega)
    rw [← e2, e]
    exact low n s h
  · exact high m s hm n
theorem val_ge1 {s : α} {v : Int} (h : Val nx (fun _ => 1) s v) : 1 ≤ v := by
  have h0 : ¬ v ≤ ((0 : Nat) : Int) := fun z => (show False from (rk_val h 0).mpr z)
  omega
theorem val_lt {s t : α} {n k : Int} (hs : Val nx (fun _ => 1) s n) (ht : t ∈ nx s) (hk : Val nx (fun _ => 1) t k) : k < n := by
  have n1 := val_ge1 hs
  have h := (rk_val hs n.toNat).mpr (by omega)
  obtain ⟨m, hm⟩ : ∃ m, n.toNat = m + 1 := ⟨n.toNat - 1, by omega⟩
  rw [hm] at h
  have := (rk_val hk m).mp (h t ht)
  omega
/-- the order of being served: each behind all that it leads to -/
def Topo (nx : α → List α) (O : List α) : Prop := ∀ pre s post, O = pre ++ s :: post → ∀ t ∈ nx s, t ∈ pre
theorem topo_srv {O : List α} (h : Topo nx O) : ∀ s ∈ O, Srv nx s := by
  have key : ∀ n, ∀ s ∈ O.take n, Srv nx s := by
    intro n
    induction n with
    | zero => exact fun s hs => absurd hs List.not_mem_nil
    | succ n ih =>
      intro s hs
      rw [List.take_add_one] at hs
      rcases List.mem_append.mp hs with hs | hs
      · exact ih s hs
      · cases e : O[n]? with
        | none =>
          rw [e] at hs
          exact absurd hs List.not_mem_nil
        | some x =>
          rw [e] at hs
          have hs : s ∈ [x] := hs
          rw [List.mem_singleton.mp hs]
          have lt := (List.getElem?_eq_some_iff.mp e).1
          have sp : O = O.take n ++ x :: O.drop (n + 1) := by
            have hx : O[n] = x := (List.getElem?_eq_some_iff.mp e).2
            rw [← hx, List.getElem_cons_drop, List.take_append_drop]
          exact srv_iff.mpr fun t ht => ih t (h _ _ _ sp t ht)
  intro s hs
  have := key O.length s
  rw [List.take_length] at this
  exact this hs
theorem srv_order {ss O : List α} (closed : ∀ s ∈ ss, ∀ t ∈ nx s, t ∈ ss) (full : ∀ s ∈ ss, (∀ t ∈ nx s, t ∈ O) → s ∈ O) : ∀ s ∈ ss, Srv nx s → s ∈ O := by
  intro s hs ⟨n, hn⟩
  induction n generalizing s with
  | zero => exact hn.elim
  | succ n ih => exact full s hs fun t ht => ih t (closed s hs t ht) (hn t ht)
theorem topo_snoc {O : List α} {s : α} (h : Topo nx O) (hs : ∀ t ∈ nx s, t ∈ O) : Topo nx (O ++ [s]) := by
  intro pre x post e t ht
  rcases List.eq_nil_or_concat post with rfl | ⟨post', y, rfl⟩
  · obtain ⟨e1, e2⟩ := List.append_inj' e rfl
    cases e2
    rw [← e1]
    exact hs t ht
  · have e' : O ++ [s] = (pre ++ x :: post') ++ [y] := by rw [e]; simp
    obtain ⟨e1, _⟩ := List.append_inj' e' rfl
    exact h pre x post' e1 t ht
/-- what can be come to -/
inductive Rch (nx : α → List α) (F : List α) : α → Prop
  | first {s : α} (h : s ∈ F) : Rch nx F s
  | step {s t : α} (h : Rch nx F s) (ht : t ∈ nx s) : Rch nx F t
theorem rch_srv {F : List α} (h : ∀ s ∈ F, Srv nx s) {s : α} (hs : Rch nx F s) : Srv nx s := by
  induction hs with
  | first hs => exact h _ hs
  | step _ ht ih => exact srv_iff.mp ih _ ht
end

/-! ### where a standing leads, as a list; dicts of standings -/
def namesL (z sv : Int) (hs : List Int) : List Int := ((List.range z.toNat).map fun i : Nat => (i : Int)).filter fun x => decide (x ∈ ahead sv hs)
theorem names_sorted {z sv : Int} {hs : List Int} (i : InZ z hs) : Sorted (namesL z sv hs) (ahead sv hs) := by
  refine ⟨List.Pairwise.filter _ (List.Pairwise.map _ ?_ List.pairwise_lt_range), fun k => ?_⟩
  · intro a b h
    show (a : Int) < b
    omega
  · unfold namesL
    rw [List.mem_filter, decide_eq_true_iff, List.mem_map]
    refine ⟨fun h => h.2, fun h => ⟨?_, h⟩⟩
    have sub : ∀ {l : List Int} {k : Int}, k ∈ ahead sv l → k ∈ l := by
      intro l
      induction l with
      | nil => exact fun h => h
      | cons x r ih =>
        intro k h
        unfold ahead at h
        split at h
        · exact absurd h List.not_mem_nil
        · rcases List.mem_cons.mp h with e | e
          · rw [e]
            exact List.mem_cons_self
          · exact List.mem_cons_of_mem _ (ih e)
    obtain ⟨u0, u1⟩ := i k (sub h)
    exact ⟨k.toNat, List.mem_range.mpr (by omega), by omega⟩
def askersL (z : Int) (row : Row) (named asked : Int) (hs : List Int) : List (Int × Int × Int) := match askN z row.1 named asked with
  | none => [nextA z row named asked 0]
  | some sv => (namesL z sv hs).map (nextA z row named asked)
theorem answ_is {z : Int} {row : Row} {named asked : Int} {hs : List Int} {as : List (Int × Int × Int)} (i : InZ z hs) (h : AnswOf z row named asked hs as) : as = askersL z row named asked hs := by
  unfold AnswOf at h
  unfold askersL
  cases e : askN z row.1 named asked with
  | none =>
    rw [e] at h
    exact h
  | some sv =>
    rw [e] at h
    obtain ⟨out, so, _, rfl⟩ := h
    show _ = (namesL z sv hs).map _
    rw [so.eq (names_sorted i) fun _ => Iff.rfl]
def nxS (z r : Int) (rs : List Row) (s : Stg) : List Stg := match rs[s.2.2.1.toNat]? with
  | none => []
  | some row => (prodS (turnsK z r s.1 s.2.1) (askersL z row s.2.2.2.1 s.2.2.2.2 s.1)).mergeSort leS
def OkS (z r g : Int) (rs : List Row) (s : Stg) : Prop := (s.1.length : Int) = g + 1 ∧ InZ z s.1 ∧ (0 ≤ s.2.1 ∧ s.2.1 < r) ∧ (0 ≤ s.2.2.1 ∧ s.2.2.1 < rs.length) ∧ (0 ≤ s.2.2.2.1 ∧ s.2.2.2.1 < z) ∧ -1 ≤ s.2.2.2.2 ∧ s.2.2.2.2 < z
theorem fmod_in {x z : Int} (h : 0 < z) : 0 ≤ x.fmod z ∧ x.fmod z < z := ⟨Int.fmod_nonneg_of_pos _ h, Int.fmod_lt_of_pos _ h⟩
theorem askN_in {z named asked : Int} {deed : Str} {sv : Int} (hz : 0 < z) (hn : 0 ≤ named ∧ named < z) (h : askN z deed named asked = some sv) : 0 ≤ sv ∧ sv < z := by
  unfold askN at h
  split at h
  · cases h
  · split at h
    · cases h
      exact hn
    · cases h
      exact fmod_in hz
theorem turns_ok18 {z r g : Int} {hs : List Int} {u : Int} (r1 : 1 ≤ r) (g0 : 0 ≤ g) (l : (hs.length : Int) = g + 1) (i : InZ z hs) (u0 : 0 ≤ u ∧ u < r) : ∀ x ∈ turnsK z r hs u, (x.1.length : Int) = g + 1 ∧ InZ z x.1 ∧ 0 ≤ x.2 ∧ x.2 < r := by
  have hd : 0 ≤ hs.headD 0 ∧ hs.headD 0 < z := by
    cases e : hs with
    | nil => rw [e, List.length_nil] at l; omega
    | cons y t => exact i y (by rw [e]; exact List.mem_cons_self)
  have tk : ∀ y ∈ hs.take (hs.length - 1), 0 ≤ y ∧ y < z := fun y hy => i y (List.mem_of_mem_take hy)
  have ln : (hs.take (hs.length - 1)).length + 1 = hs.length := by rw [List.length_take]; omega
  intro x hx
  unfold turnsK at hx
  split at hx
  · rw [List.mem_singleton.mp hx]
    refine ⟨by show (((hs.headD 0 :: hs.take (hs.length - 1)).length : Nat) : Int) = g + 1; rw [List.length_cons]; omega, fun y hy => ?_, by show 0 ≤ u - 1; omega, by show u - 1 < r; omega⟩
    rcases List.mem_cons.mp hy with rfl | hy
    · exact hd
    · exact tk y hy
  · obtain ⟨k, hk, rfl⟩ := List.mem_map.mp hx
    have hk := List.mem_range.mp hk
    refine ⟨by show ((((k : Int) :: hs.take (hs.length - 1)).length : Nat) : Int) = g + 1; rw [List.length_cons]; omega, fun y hy => ?_, ?_, ?_⟩
    · rcases List.mem_cons.mp hy with rfl | hy
      · omega
      · exact tk y hy
    · dsimp only
      split <;> omega
    · dsimp only
      split <;> omega
theorem nxS_ok {z r g : Int} {rs : List Row} {s : Stg} (z2 : 2 ≤ z) (r1 : 1 ≤ r) (g0 : 0 ≤ g) (tb : ∀ row ∈ rs, RowOf (rs.length : Int) row) (ok : OkS z r g rs s) : ∀ t ∈ nxS z r rs s, OkS z r g rs t := by
  obtain ⟨l, i, u0, i0, n0, a0⟩ := ok
  intro t ht
  unfold nxS at ht
  split at ht
  · exact absurd ht List.not_mem_nil
  · rename_i row hrow
    obtain ⟨_, b0, b1, b2, b3⟩ := tb row (List.mem_of_getElem? hrow)
    have ht := (List.mergeSort_perm _ leS).mem_iff.mp ht
    obtain ⟨q, hq, hm⟩ := List.mem_flatMap.mp ht
    obtain ⟨a, ha, rfl⟩ := List.mem_map.mp hm
    obtain ⟨q1, q2, q3, q4⟩ := turns_ok18 r1 g0 l i u0 q hq
    refine ⟨q1, q2, ⟨q3, q4⟩, ?_⟩
    unfold askersL at ha
    have nextOk : ∀ sv name : Int, askN z row.1 s.2.2.2.1 s.2.2.2.2 = some sv → 0 ≤ name → name < z → (0 ≤ (nextA z row s.2.2.2.1 s.2.2.2.2 name).1 ∧ (nextA z row s.2.2.2.1 s.2.2.2.2 name).1 < rs.length) ∧ (0 ≤ (nextA z row s.2.2.2.1 s.2.2.2.2 name).2.1 ∧ (nextA z row s.2.2.2.1 s.2.2.2.2 name).2.1 < z) ∧ -1 ≤ (nextA z row s.2.2.2.1 s.2.2.2.2 name).2.2 ∧ (nextA z row s.2.2.2.1 s.2.2.2.2 name).2.2 < z := fun sv name e m0 m1 => by
      have := askN_in (by omega) n0 e
      unfold nextA
      rw [e]
      dsimp only
      split
      · exact ⟨⟨b2, b3⟩, ⟨m0, m1⟩, by show -1 ≤ sv; omega, this.2⟩
      · exact ⟨⟨b0, b1⟩, ⟨m0, m1⟩, by show -1 ≤ sv; omega, this.2⟩
    cases e : askN z row.1 s.2.2.2.1 s.2.2.2.2 with
    | none =>
      rw [e] at ha
      rw [List.mem_singleton.mp ha]
      unfold nextA
      rw [e]
      exact ⟨⟨b0, b1⟩, n0, a0⟩
    | some sv =>
      rw [e] at ha
      obtain ⟨name, hname, rfl⟩ := List.mem_map.mp ha
      unfold namesL at hname
      obtain ⟨k, hk, rfl⟩ := List.mem_map.mp (List.mem_filter.mp hname).1
      have hk := List.mem_range.mp hk
      exact nextOk sv k e (by omega) (by omega)
theorem nxS_len {z r g : Int} {rs : List Row} {s : Stg} (z2 : 2 ≤ z) (z4 : z ≤ 4) : (nxS z r rs s).length ≤ 20 := by
  unfold nxS
  split
  · simp
  · rename_i row _
    rw [List.length_mergeSort, prodS_len]
    have h1 : (turnsK z r s.1 s.2.1).length ≤ 4 := by
      unfold turnsK
      split
      · simp
      · rw [List.length_map, List.length_range]
        omega
    have h2 : (askersL z row s.2.2.2.1 s.2.2.2.2 s.1).length ≤ 4 := by
      unfold askersL
      split
      · simp
      · rw [List.length_map]
        unfold namesL
        refine Nat.le_trans (List.length_filter_le _ _) ?_
        rw [List.length_map, List.length_range]
        omega
    have := Nat.mul_le_mul h1 h2
    omega
/-- all standings of the shape -/
def uniS (z r g : Int) (n : Nat) : List Stg := (allR z.toNat (g + 1).toNat).flatMap fun row => (List.range r.toNat).flatMap fun u : Nat => (List.range n).flatMap fun i : Nat => (List.range z.toNat).flatMap fun a : Nat => (List.range (z + 1).toNat).map fun b : Nat => (row, (u : Int), (i : Int), (a : Int), (b : Int) - 1)
theorem allR_in18 {z : Nat} : ∀ {n : Nat} {x : List Int}, x.length = n → (∀ y ∈ x, 0 ≤ y ∧ y < (z : Int)) → x ∈ allR z n
  | 0, x, h, _ => by
    rw [List.length_eq_zero_iff.mp h]
    exact List.mem_singleton.mpr rfl
  | n + 1, x, h, hy => by
    have ne : x ≠ [] := fun e => by rw [e] at h; cases h
    have lz := hy _ (List.getLast_mem ne)
    refine mem_extR.mpr ⟨x.dropLast, allR_in18 (by rw [List.length_dropLast, h]; rfl) fun y hy' => hy y (List.dropLast_subset _ hy'), (x.getLast ne).toNat, by omega, ?_⟩
    rw [show (((x.getLast ne).toNat : Nat) : Int) = x.getLast ne by omega]
    exact (List.dropLast_concat_getLast ne).symm
theorem uniS_mem {z r g : Int} {rs : List Row} {s : Stg} (g0 : 0 ≤ g) (ok : OkS z r g rs s) : s ∈ uniS z r g rs.length := by
  obtain ⟨hs, u, i, a, b⟩ := s
  obtain ⟨l, iz, u0, i0, n0, a0⟩ := ok
  dsimp only at l iz u0 i0 n0 a0
  unfold uniS
  refine List.mem_flatMap.mpr ⟨hs, allR_in18 (by omega) fun y hy => by have := iz y hy; omega, List.mem_flatMap.mpr ⟨u.toNat, List.mem_range.mpr (by omega), List.mem_flatMap.mpr ⟨i.toNat, List.mem_range.mpr (by omega), List.mem_flatMap.mpr ⟨a.toNat, List.mem_range.mpr (by omega), List.mem_map.mpr ⟨(b + 1).toNat, List.mem_range.mpr (by omega), ?_⟩⟩⟩⟩⟩
  rw [show ((u.toNat : Nat) : Int) = u by omega, show ((i.toNat : Nat) : Int) = i by omega, show ((a.toNat : Nat) : Int) = a by omega, show (((b + 1).toNat : Nat) : Int) - 1 = b by omega]
theorem len_flat {α β : Type} (l : List α) (f : α → List β) (k : Nat) (h : ∀ x, (f x).length = k) : (l.flatMap f).length = l.length * k := by
  induction l with
  | nil => simp
  | cons x l ih => rw [List.flatMap_cons, List.length_append, ih, h, List.length_cons, Nat.succ_mul]; omega
theorem uniS_len {z r g : Int} {n : Nat} (z4 : z ≤ 4) (r6 : r ≤ 6) (room : z.toNat ^ (g + 1).toNat * n ≤ 500) : (uniS z r g n).length ≤ 60000 := by
  unfold uniS
  rw [len_flat _ _ (r.toNat * (n * (z.toNat * (z + 1).toNat))) fun row => ?_, allR_len]
  · have h1 : r.toNat ≤ 6 := by omega
    have h2 : z.toNat ≤ 4 := by omega
    have h3 : (z + 1).toNat ≤ 5 := by omega
    have h4 : z.toNat * (z + 1).toNat ≤ 20 := Nat.mul_le_mul h2 h3
    have e : z.toNat ^ (g + 1).toNat * (r.toNat * (n * (z.toNat * (z + 1).toNat))) = (z.toNat ^ (g + 1).toNat * n) * (r.toNat * (z.toNat * (z + 1).toNat)) := by
      rw [Nat.mul_left_comm r.toNat n, ← Nat.mul_assoc]
    rw [e]
    exact Nat.mul_le_mul room (Nat.le_trans (Nat.mul_le_mul h1 h4) (by decide : 6 * 20 ≤ 120))
  · rw [len_flat _ _ (n * (z.toNat * (z + 1).toNat)) fun u => ?_, List.length_range]
    rw [len_flat _ _ (z.toNat * (z + 1).toNat) fun i => ?_, List.length_range]
    rw [len_flat _ _ (z + 1).toNat fun a => ?_, List.length_range]
    rw [List.length_map, List.length_range]

/-! ### what only tuples rest on -/
abbrev Memo := List (PyData × Addr × V)
mutual
def tupsOnly : PyData → Bool
  | .tuple ds => tupsOnlyAll ds
  | .list _ => false
  | .dict _ => false
  | _ => true
def tupsOnlyAll : List PyData → Bool
  | [] => true
  | d :: ds => tupsOnly d && tupsOnlyAll ds
end
structure TupK (H J : Hp) : Prop where
  t : ∀ a xs, H a = some (.tup xs) → J a = some (.tup xs)
  z : ∀ a o xs, H a = some (.frz o (.tup xs)) → J a = some (.frz o (.tup xs))
theorem TupK.refl (H : Hp) : TupK H H := ⟨fun _ _ h => h, fun _ _ _ h => h⟩
theorem TupK.trans {H J L : Hp} (a : TupK H J) (b : TupK J L) : TupK H L := ⟨fun c xs h => b.t c xs (a.t c xs h), fun c o xs h => b.z c o xs (a.z c o xs h)⟩
theorem TupK.grow {H J : Hp} (g : Grow H J) : TupK H J := ⟨fun a xs h => g.at h, fun a o xs h => g.at h⟩
theorem TupK.put {H : Hp} {D : Addr} {u o : HO} (hD : H D = some u) (nt : ∀ xs, u ≠ .tup xs) (nf : ∀ o' xs, u ≠ .frz o' (.tup xs)) : TupK H (upd H D o) := by
  refine ⟨fun a xs h => ?_, fun a o' xs h => ?_⟩
  · rw [upd_ne (ne_of h hD (fun z => nt _ z.symm))]
    exact h
  · rw [upd_ne (ne_of h hD (fun z => nf _ _ z.symm))]
    exact h
theorem TupK.lst {H : Hp} {D : Addr} {xs : List V} {o : HO} (hD : H D = some (.lst xs)) : TupK H (upd H D o) := by
  exact TupK.put hD (fun _ z => by cases z) (fun _ _ z => by cases z)
theorem dictKO_ne {w : World} {D : Addr} {L : Memo} {u : HO} (n : ∀ φ, u ≠ .ext φ) : DictKO w D L ≠ u := fun z => by
  unfold DictKO at z
  exact n _ z.symm
theorem TupK.dict {w : World} {H : Hp} {D : Addr} {L : Memo} {o : HO} (hD : H D = some (DictKO w D L)) : TupK H (upd H D o) := TupK.put hD (fun _ => dictKO_ne fun _ z => by cases z) (fun _ _ => dictKO_ne fun _ z => by cases z)
theorem TupK.lock {w : World} {H : Hp} {D : Addr} {L : Memo} {od : Obj} {o : HO} (hD : H D = some (.frz od (DictKO w D L))) : TupK H (upd H D o) := TupK.put hD (fun _ z => by cases z) (fun o' xs z => by
  injection z with _ z
  exact dictKO_ne (fun _ z => by cases z) z)
theorem TupK.new {H : Hp} {D : Addr} {o : HO} (hD : H D = none) : TupK H (upd H D o) := TupK.grow (Grow.new hD)
theorem TupK.tup {K : PySem.W.Frag} {H J : Hp} {a : Addr} {xs : List V} (k : TupK H J) (h : SqT K H a xs) : SqT K J a xs := by
  rcases h with (h | ⟨o, h⟩) | h
  · exact Or.inl (Or.inl (k.t _ _ h))
  · exact Or.inl (Or.inr ⟨o, k.z _ _ _ h⟩)
  · exact Or.inr h
mutual
theorem TupK.key {K : PySem.W.Frag} {H J : Hp} (k : TupK H J) : ∀ (d : PyData) (v : V), isKeyD d = true → Dp K H v d → Dp K J v d
  | .int i, _, _, h => by cases h; exact .int i
  | .tuple ds, _, q, h => by
    cases h with
    | tup h1 h2 => exact .tup (k.tup h1) (TupK.keys k ds _ q h2)
  | .none, _, _, h => by cases h; exact .non
  | .bool _, _, q, _ => by cases q
  | .str _, _, q, _ => by cases q
  | .list _, _, q, _ => by cases q
  | .dict _, _, q, _ => by cases q
theorem TupK.keys {K : PySem.W.Frag} {H J : Hp} (k : TupK H J) : ∀ (ds : List PyData) (vs : List V), isKeyDs ds = true → DpAll K H vs ds → DpAll K J vs ds
  | [], _, _, h => by cases h; exact .nil
  | d :: ds, _, q, h => by
    simp only [isKeyDs, Bool.and_eq_true] at q
    cases h with
    | cons h1 h2 => exact .cons (TupK.key k d _ q.1 h1) (TupK.keys k ds _ q.2 h2)
end
theorem stgs_key (ss : List Stg) : isKeyDs (ss.map stgD) = true := keys_all fun d hd => by
  obtain ⟨y, _, rfl⟩ := List.mem_map.mp hd
  exact stg_key y
theorem TupK.stg {K : PySem.W.Frag} {H J : Hp} {v : V} {s : Stg} (k : TupK H J) (h : Dp K H v (stgD s)) : Dp K J v (stgD s) := k.key _ _ (stg_key s) h
theorem TupK.stgs {K : PySem.W.Frag} {H J : Hp} {vs : List V} {ss : List Stg} (k : TupK H J) (h : DpAll K H vs (ss.map stgD)) : DpAll K J vs (ss.map stgD) := k.keys _ _ (stgs_key ss) h
mutual
theorem TupK.tups {K : PySem.W.Frag} {H J : Hp} (k : TupK H J) : ∀ (d : PyData) (v : V), tupsOnly d = true → Dp K H v d → Dp K J v d
  | .int i, _, _, h => by cases h; exact .int i
  | .tuple ds, _, q, h => by
    cases h with
    | tup h1 h2 => exact .tup (k.tup h1) (TupK.tupsAll k ds _ q h2)
  | .none, _, _, h => by cases h; exact .non
  | .bool b, _, _, h => by cases h; exact .bl b
  | .str x, _, _, h => by cases h; exact .str x
  | .list _, _, q, _ => by cases q
  | .dict _, _, q, _ => by cases q
theorem TupK.tupsAll {K : PySem.W.Frag} {H J : Hp} (k : TupK H J) : ∀ (ds : List PyData) (vs : List V), tupsOnlyAll ds = true → DpAll K H vs ds → DpAll K J vs ds
  | [], _, _, h => by cases h; exact .nil
  | d :: ds, _, q, h => by
    simp only [tupsOnlyAll, Bool.and_eq_true] at q
    cases h with
    | cons h1 h2 => exact .cons (TupK.tups k d _ q.1 h1) (TupK.tupsAll k ds _ q.2 h2)
end
theorem house_tups (z r g : Int) : tupsOnly (houseT z r g) = true := rfl
theorem table_tups (rs : List Row) : tupsOnly (tableD rs) = true := by
  show tupsOnlyAll (rs.map rowD) = true
  induction rs with
  | nil => rfl
  | cons x rs ih => simp only [List.map_cons, tupsOnlyAll, rowD, tupsOnly, ih, Bool.and_self]
/-! ### dicts of standings -/
theorem stgD_inj {p q : Stg} (h : stgD p = stgD q) : p = q := by
  have := congrArg unS h
  rw [unS_stg, unS_stg] at this
  exact this
theorem stg_deep8 (s : Stg) : (stgD s).depth ≤ 8 := by
  simp only [stgD, askerD, PyData.depth, PyData.depthAll, ints_deep]
  decide
def DicS (K : PySem.W.Frag) (F : Stg → V → Prop) (H : Hp) (L : Memo) (ss : List Stg) : Prop := Paired (fun (q : PyData × Addr × V) (s : Stg) => q.1 = stgD s ∧ Dp K H (.ref q.2.1) (stgD s) ∧ F s q.2.2) L ss
theorem IsKeyAt.stg {K : PySem.W.Frag} {H : Hp} {b : Addr} {s : Stg} (h : Dp K H (.ref b) (stgD s)) : IsKeyAt K H b (stgD s) := ⟨stg_key s, stg_deep8 s, h⟩
theorem dp_ref {K : PySem.W.Frag} {H : Hp} {v : V} {s : Stg} (h : Dp K H v (stgD s)) : ∃ b, v = .ref b := by
  unfold stgD at h
  cases h
  exact ⟨_, rfl⟩
section
variable {K : PySem.W.Frag} {F F' : Stg → V → Prop} {H J : Hp}
theorem DicS.fst : ∀ {L : Memo} {ss : List Stg}, DicS K F H L ss → L.map Prod.fst = ss.map stgD
  | _, _, .nil => rfl
  | _, _, .cons r t => by rw [List.map_cons, List.map_cons, r.1, DicS.fst t]
theorem DicS.len : ∀ {L : Memo} {ss : List Stg}, DicS K F H L ss → L.length = ss.length
  | _, _, .nil => rfl
  | _, _, .cons r t => by rw [List.length_cons, List.length_cons, DicS.len t]
theorem DicS.keys : ∀ {L : Memo} {ss : List Stg}, DicS K F H L ss → KeysD K H L
  | _, _, .nil, q, hq => absurd hq List.not_mem_nil
  | _, _, .cons r t, q, hq => by
    rcases List.mem_cons.mp hq with rfl | hq
    · rw [r.1]
      exact ⟨stg_key _, stg_deep8 _, r.2.1⟩
    · exact DicS.keys t q hq
theorem DicS.get : ∀ {L : Memo} {ss : List Stg} {s : Stg}, DicS K F H L ss → s ∈ ss → ∃ b v, (stgD s, b, v) ∈ L ∧ F s v
  | _, _, s, .cons (a := q) (b := x) r t, h => by
    rcases List.mem_cons.mp h with rfl | h
    · refine ⟨q.2.1, q.2.2, ?_, r.2.2⟩
      rw [← r.1]
      exact List.mem_cons_self
    · obtain ⟨b, v, h1, h2⟩ := DicS.get t h
      exact ⟨b, v, List.mem_cons_of_mem _ h1, h2⟩
theorem DicS.mem {L : Memo} {ss : List Stg} {s : Stg} (h : DicS K F H L ss) : stgD s ∈ L.map Prod.fst ↔ s ∈ ss := by
  rw [h.fst, List.mem_map]
  exact ⟨fun ⟨x, hx, e⟩ => stgD_inj e ▸ hx, fun hx => ⟨s, hx, rfl⟩⟩
theorem DicS.mono (k : TupK H J) : ∀ {L : Memo} {ss : List Stg}, (∀ s ∈ ss, ∀ v, F s v → F' s v) → DicS K F H L ss → DicS K F' J L ss
  | _, _, _, .nil => .nil
  | _, _, f, .cons r t => .cons ⟨r.1, k.stg r.2.1, f _ List.mem_cons_self _ r.2.2⟩ (DicS.mono k (fun s hs => f s (List.mem_cons_of_mem _ hs)) t)
theorem DicS.snoc : ∀ {L : Memo} {ss : List Stg} {s : Stg} {b : Addr} {v : V}, DicS K F H L ss → Dp K H (.ref b) (stgD s) → F s v → DicS K F H (L ++ [(stgD s, b, v)]) (ss ++ [s])
  | _, _, _, _, _, .nil, h1, h2 => .cons ⟨rfl, h1, h2⟩ .nil
  | _, _, _, _, _, .cons r t, h1, h2 => .cons r (DicS.snoc t h1 h2)
theorem DicS.new {L M : Memo} {ss : List Stg} {s : Stg} {b : Addr} {v : V} (h : DicS K F H L ss) (n : s ∉ ss) (hb : Dp K H (.ref b) (stgD s)) (hv : F s v) (m : PutD L (stgD s) b v M) : DicS K F H M (ss ++ [s]) := by
  rcases m with ⟨_, rfl⟩ | ⟨y, _⟩
  · exact h.snoc hb hv
  · exact absurd (h.mem.mp y) n
theorem DicS.put {v : V} {s : Stg} : ∀ {L : Memo} {ss : List Stg}, DicS K F H L ss → (∀ t ∈ ss, t ≠ s → ∀ v, F t v → F' t v) → F' s v → DicS K F' H (L.map fun p => if keyOf p.1 = keyOf (stgD s) then (p.1, p.2.1, v) else p) ss
  | _, _, .nil, _, _ => .nil
  | _, _, .cons (a := q) (b := x) r t, f, hv => by
    refine .cons ?_ (DicS.put t (fun t ht => f t (List.mem_cons_of_mem _ ht)) hv)
    dsimp only
    by_cases c : x = s
    · rw [if_pos (by rw [r.1, c]), c]
      rw [c] at r
      exact ⟨r.1, r.2.1, hv⟩
    · rw [if_neg fun e => c (stgD_inj (keyOf_inj _ _ (stg_key _) (stg_key _) (by rw [← r.1]; exact e)))]
      exact ⟨r.1, r.2.1, f x List.mem_cons_self c _ r.2.2⟩
theorem DicS.old {L M : Memo} {ss : List Stg} {s : Stg} {b : Addr} {v : V} (h : DicS K F H L ss) (n : s ∈ ss) (m : PutD L (stgD s) b v M) (f : ∀ t ∈ ss, t ≠ s → ∀ v, F t v → F' t v) (hv : F' s v) : DicS K F' H M ss := by
  rcases m with ⟨y, _⟩ | ⟨_, rfl⟩
  · exact absurd (h.mem.mpr n) y
  · exact h.put f hv
theorem DicS.nth : ∀ {L : Memo} {ss : List Stg} {i : Nat} {q : PyData × Addr × V}, DicS K F H L ss → L[i]? = some q → ∃ s, ss[i]? = some s ∧ q.1 = stgD s ∧ Dp K H (.ref q.2.1) (stgD s) ∧ F s q.2.2
  | _, _, _, _, .nil, h => by cases h
  | _, _, 0, _, .cons (b := x) r _, h => by
    cases h
    exact ⟨x, rfl, r⟩
  | _, _, i + 1, _, .cons _ t, h => DicS.nth (i := i) t h
end

/-! ### where all standings lead: the program -/
theorem dp_stg18 {K : PySem.W.Frag} {H : Hp} {v : V} {s : Stg} (h : Dp K H v (stgD s)) : ∃ b c e : Addr, v = .ref b ∧ SqT K H b [.ref c, .int s.2.1, .ref e] ∧ SqT K H c (s.1.map V.int) ∧ SqT K H e [.int s.2.2.1, .int s.2.2.2.1, .int s.2.2.2.2] := by
  unfold stgD askerD at h
  cases h with
  | tup h1 h2 =>
  cases h2 with
  | cons a h2 =>
  cases h2 with
  | cons b h2 =>
  cases h2 with
  | cons c h2 =>
  cases h2
  cases b
  cases a with
  | tup a1 a2 =>
  cases c with
  | tup c1 c2 =>
  cases c2 with
  | cons d1 c2 =>
  cases c2 with
  | cons d2 c2 =>
  cases c2 with
  | cons d3 c2 =>
  cases c2
  cases d1
  cases d2
  cases d3
  rw [dp_ints a2] at a1
  exact ⟨_, _, _, rfl, h1, a1, c1⟩
def firstsS (z r g : Int) : List Stg := ((begR z r g).map fun ns => ((ns.reverse, holdI r ns, (0, 0, -1)) : Stg)).mergeSort leS
theorem firsts_stg {z r g : Int} (g0 : 0 ≤ g) : firstsD z r g = (firstsS z r g).map stgD := by
  unfold firstsD firstsS
  rw [← sort_stg (g := (g + 1).toNat), List.map_map]
  · rfl
  · intro p hp
    obtain ⟨ns, hns, rfl⟩ := List.mem_map.mp hp
    show ns.reverse.length = _
    rw [List.length_reverse]
    exact (allR_mem (List.mem_filter.mp hns).1).1
theorem changes_in18 {ns : List Int} {c : Int} (h : c ∈ changesI ns) : 1 ≤ c ∧ c ≤ (ns.length : Int) - 1 := by
  unfold changesI at h
  obtain ⟨i, hi, rfl⟩ := List.mem_map.mp h
  have := List.mem_range.mp (List.mem_filter.mp hi).1
  omega
theorem hold_in {r : Int} (r1 : 1 ≤ r) (ns : List Int) : 0 ≤ holdI r ns ∧ holdI r ns < r := by
  unfold holdI
  cases e : (changesI ns).getLast? with
  | none => exact ⟨Int.le_refl _, by show (0 : Int) < r; omega⟩
  | some c =>
    have := changes_in18 (List.mem_of_getLast? e)
    dsimp only
    omega
theorem firstsS_ok {z r g : Int} {rs : List Row} (z2 : 2 ≤ z) (r1 : 1 ≤ r) (g0 : 0 ≤ g) (l1 : 1 ≤ rs.length) : ∀ s ∈ firstsS z r g, OkS z r g rs s := by
  intro s hs
  have hs := (List.mergeSort_perm _ leS).mem_iff.mp hs
  obtain ⟨ns, hns, rfl⟩ := List.mem_map.mp hs
  obtain ⟨a, b⟩ := allR_mem (List.mem_filter.mp hns).1
  refine ⟨by show ((ns.reverse.length : Nat) : Int) = _; rw [List.length_reverse]; omega, fun y hy => ?_, hold_in r1 ns, ⟨Int.le_refl _, by show (0 : Int) < _; omega⟩, ⟨Int.le_refl _, by show (0 : Int) < z; omega⟩, by show (-1 : Int) ≤ -1; decide, by show (-1 : Int) < z; omega⟩
  have := b y (List.mem_reverse.mp hy)
  omega
theorem firstsS_len {z r g : Int} (hz : HouseOf 81 z r g) : (firstsS z r g).length ≤ 81 := by
  unfold firstsS
  rw [List.length_mergeSort, List.length_map]
  exact Nat.le_trans (List.length_filter_le _ _) (allR_small hz _ (Nat.le_refl _))
/-- a house and a table that are asked of together -/
structure Both (z r g : Int) (rs : List Row) : Prop where
  h : HouseOf 81 z r g
  l : 1 ≤ rs.length
  t : ∀ row ∈ rs, RowOf (rs.length : Int) row
  m : z.toNat ^ (g + 1).toNat * rs.length ≤ 500
abbrev RchS (z r g : Int) (rs : List Row) : Stg → Prop := Rch (nxS z r rs) (firstsS z r g)
theorem RchS.ok {z r g : Int} {rs : List Row} (b : Both z r g rs) {s : Stg} (h : RchS z r g rs s) : OkS z r g rs s := by
  obtain ⟨z2, z4, r1, r6, g0, g3, _⟩ := b.h
  induction h with
  | first h => exact firstsS_ok z2 r1 g0 b.l _ h
  | step _ ht ih => exact nxS_ok z2 r1 g0 b.t ih _ ht
theorem few_stgs {z r g : Int} {rs : List Row} (b : Both z r g rs) {ss : List Stg} (nd : ss.Nodup) (h : ∀ s ∈ ss, OkS z r g rs s) : ss.length ≤ 60000 := by
  obtain ⟨z2, z4, r1, r6, g0, g3, _⟩ := b.h
  exact Nat.le_trans (List.Nodup.length_le_of_subset nd (l₂ := uniS z r g rs.length) fun s hs => uniS_mem g0 (h s hs)) (uniS_len z4 r6 b.m)
/-- what stands for a standing in leads -/
def LeadV (K : PySem.W.Frag) (z r : Int) (rs : List Row) (H : Hp) (s : Stg) (v : V) : Prop := ∃ (t : Addr) (us : List V), v = .ref t ∧ SqT K H t us ∧ DpAll K H us ((nxS z r rs s).map stgD)
theorem LeadV.keep {K : PySem.W.Frag} {z r : Int} {rs : List Row} {H J : Hp} {s : Stg} {v : V} (k : TupK H J) (h : LeadV K z r rs H s v) : LeadV K z r rs J s v := let ⟨t, us, a, b, c⟩ := h; ⟨t, us, a, k.tup b, k.stgs c⟩
/-- all standings that can be come to, and where they lead -/
structure Leads (K : PySem.W.Frag) (w : World) (z r g : Int) (rs : List Row) (H : Hp) (D : Addr) (L : Memo) (ss : List Stg) : Prop where
  d : H D = some (DictKO w D L)
  v : DicS K (LeadV K z r rs H) H L ss
  n : ss.Nodup
  m : ∀ s, s ∈ ss ↔ RchS z r g rs s
theorem Leads.grow {K : PySem.W.Frag} {w : World} {z r g : Int} {rs : List Row} {H J : Hp} {D : Addr} {L : Memo} {ss : List Stg} (h : Leads K w z r g rs H D L ss) (gr : Grow H J) : Leads K w z r g rs J D L ss :=
  ⟨gr.at h.d (fun q => dictKO_ne fun _ z => by cases z), h.v.mono (TupK.grow gr) fun s _ v q => q.keep (TupK.grow gr), h.n, h.m⟩
theorem Leads.closed {K : PySem.W.Frag} {w : World} {z r g : Int} {rs : List Row} {H : Hp} {D : Addr} {L : Memo} {ss : List Stg} (h : Leads K w z r g rs H D L ss) : ∀ s ∈ ss, ∀ t ∈ nxS z r rs s, t ∈ ss := fun s hs t ht => (h.m t).mpr (.step ((h.m s).mp hs) ht)
def sp_leads (K : PySem.W.Frag) (w : World) (tb tb2 tb3 tb4 : Addr) : Sp := fun vs H Q _ => ∃ (h t : V) (z r g : Int) (rs : List Row), vs = [h, t] ∧ Dp K H h (houseT z r g) ∧ Dp K H t (tableD rs) ∧ Both z r g rs ∧ GxR.TabG H tb ∧ GxR.TabG H tb2 ∧ GxR.TabG H tb3 ∧ GxR.TabG H tb4 ∧
  ∀ (D : Addr) (L : Memo) (ss : List Stg) (J : Hp), Grow H J → H D = none → Leads K w z r g rs J D L ss → Q (.ref D) J
section
variable {P : Program} {w : World} {K : PySem.W.Frag} {mg : Str → Option Value} {base : Heap}
theorem ok_leads (T : Txt K mg) (TB : ∀ p ∈ T.tabs, GxR.TabB base mg p.1 p.2) : FnOk P w K mg base CX0 14 T.a_leads_of T.d_leads_of ["house", "table"] (sp_leads K w T.p_changes_of T.p_heads_back T.p_turns T.p_answered) := by
  have TB1 : GxR.TabB base mg T.c_changes_of T.p_changes_of := TB (T.c_changes_of, T.p_changes_of) (by simp [Txt.tabs])
  have TB2 : GxR.TabB base mg T.c_heads_back T.p_heads_back := TB (T.c_heads_back, T.p_heads_back) (by simp [Txt.tabs])
  have TB3 : GxR.TabB base mg T.c_turns T.p_turns := TB (T.c_turns, T.p_turns) (by simp [Txt.tabs])
  have TB4 : GxR.TabB base mg T.c_answered T.p_answered := TB (T.c_answered, T.p_answered) (by simp [Txt.tabs])
  have G_firsts : FnOk P w K mg base CX0 5 T.a_firsts T.d_firsts ["house"] (sp_firsts K T.p_changes_of T.p_heads_back) := ok_firsts T TB1 TB2
  have G_goes_to : FnOk P w K mg base CX0 13 T.a_goes_to T.d_goes_to ["house", "table", "standing"] (sp_goes K T.p_turns T.p_answered) := ok_goes T TB3 TB4
  refine T.F_leads_of.ok sc_leads_of (fun vs H Q E h => ?_) (fun cdv A outer s H vs Q E hr h => ?_)
  · obtain ⟨h, t, z, r, g, rs, rfl, _⟩ := h
    rfl
  · obtain ⟨h, t, z, r, g, rs, rfl, hh, ht, bo, hT1, hT2, hT3, hT4, k⟩ := h
    refine ⟨_, (pss_cons (ps_set (i := 2) sc_leads_of.nd rfl (Or.inl rfl) pe_nnew)
      (pss_cons (ps_set (i := 3) sc_leads_of.nd rfl (Or.inl rfl) (pe_callTy (T := "list") call_list_of (by rfl) T.m_list (by decide +kernel) (pa_cons (pe_call G_firsts (hr.mono (by omega)) (by rfl) T.g_firsts T.F_firsts.kp T.b_firsts .nil pass0 (pa_cons (pv 0) pa_nil)) pa_nil)))
      (pss_cons (ps_while PassesOwn.never (pt_cmpR op_gt (pe_callB (id := "len") call_len_seq (by rfl) T.m_len (by decide +kernel) (pa_cons (pv 3) pa_nil)) pe_int (nomark _))
        (pss_cons (ps_set (i := 4) sc_leads_of.nd rfl (Or.inl rfl) (pe_bm0 PySem.F.plainAttrs_list PySem.F.slot_list_pop PySem.F.type_list_pop mt_pop (pv 3)))
      (pss_one (ps_if (pt_cmp (pc_nnotin (hu64 hr) (pv 4) (pv 2)))
        (pss_cons (ps_nput (hu64 hr) (pv 2) (pv 4) (pe_call G_goes_to (hr.mono (by omega)) (by rfl) T.g_goes_to T.F_goes_to.kp T.b_goes_to .nil pass0 (pa_cons (pv 0) (pa_cons (pv 1) (pa_cons (pv 4) pa_nil)))) (by rfl))
      (pss_one (ps_expr (pe_bm PySem.F.plainAttrs_list PySem.F.slot_list_extend PySem.F.type_list_extend mt_extendT (pv 3) (pa_cons (pe_nget (hu64 hr) (pv 2) (pv 4) (fun _ _ => rfl)) pa_nil)))))
        pss_nil))))
      (pss_one (ps_ret (pv 2)))))), ?_⟩
    obtain ⟨z2, z4, r1, r6, g0, g3, _⟩ := bo.h
    obtain ⟨th, rfl, sth⟩ := dp_three hh
    intro D hD
    have G0 : Grow H (upd H D (DictKO w D [])) := Grow.new hD
    have D0 : (upd H D (DictKO w D [])) D = some (DictKO w D []) := upd_same
    show gName 2 (V.ref D) _ (upd H D (DictKO w D [])) _
    generalize upd H D (DictKO w D []) = J0 at G0 D0 ⊢
    refine ⟨_, rfl, th, z, r, g, rfl, G0.tup sth, bo.h, G0.t.tab hT1, G0.t.tab hT2, fun tf us J1 G1 htf df => ?_⟩
    rw [firsts_stg g0] at df
    refine ⟨tf, us, rfl, .inr (SqT.of htf), fun Rl hRl => ?_⟩
    have G2 : Grow J1 (upd J1 Rl (.lst us)) := Grow.new hRl
    have R2 : (upd J1 Rl (.lst us)) Rl = some (.lst us) := upd_same
    have df2 := growDpAll G2 _ _ df
    have D2 := G2.at (G1.at D0 (fun q => dictKO_ne fun _ z => by cases z)) (fun q => dictKO_ne fun _ z => by cases z)
    have GH2 := (G0.trans G1).trans G2
    have hRlH : H Rl = none := (G0.trans G1).free hRl
    show gName 3 (V.ref Rl) _ (upd J1 Rl (.lst us)) _
    generalize upd J1 Rl (.lst us) = J2 at G2 R2 df2 D2 GH2 ⊢
    refine ⟨fun m σ J => ∃ (y4 : Option V) (ws : List V) (ss ys : List Stg) (L : Memo), σ = [some (.ref th), some t, some (.ref D), some (.ref Rl), y4] ∧ Grow H J ∧ J D = some (DictKO w D L) ∧ DicS K (LeadV K z r rs J) J L ss ∧ J Rl = some (.lst ws) ∧ DpAll K J ws (ys.map stgD) ∧ ss.Nodup ∧ (∀ s ∈ ss, RchS z r g rs s) ∧ (∀ s ∈ ys, RchS z r g rs s) ∧ (∀ s ∈ firstsS z r g, s ∈ ss ∨ s ∈ ys) ∧ (∀ s ∈ ss, ∀ t ∈ nxS z r rs s, t ∈ ss ∨ t ∈ ys) ∧ ys.length ≤ 81 + 20 * ss.length ∧ m = (60000 - ss.length) * 21 + ys.length, ⟨_, none, us, [], firstsS z r g, [], rfl, GH2, D2, .nil, R2, df2, .nil, fun s hs => absurd hs List.not_mem_nil, fun s hs => .first hs, fun s hs => .inr hs, fun s hs => absurd hs List.not_mem_nil, by have := firstsS_len bo.h; omega, rfl⟩, ?_⟩
    rintro m σ J ⟨y4, ws, ss, ys, L, rfl, G, hD1, dv, hR, dw, nd, rss, rys, hF, hN, few, rfl⟩
    have lw := dpAll_len dw
    rw [List.length_map] at lw
    refine ⟨_, rfl, Rl, ws, rfl, .inl (SqL.of hR), _, _, rfl, rfl, _, rfl, ?_⟩
    refine ite2 (fun hq => ?_) (fun hq => ?_)
    · have pos : 0 < ys.length := by have := of_decide_eq_true hq; omega
      obtain ⟨y, hy⟩ : ∃ y, ys[ys.length - 1]? = some y := ⟨_, List.getElem?_eq_getElem (by omega)⟩
      obtain ⟨v, hv⟩ : ∃ v, ws[ws.length - 1]? = some v := ⟨_, List.getElem?_eq_getElem (by omega)⟩
      obtain ⟨dy, hdy, dvy⟩ := dpAll_get dw hv
      rw [List.getElem?_map, lw, hy] at hdy
      cases hdy
      have ey : ys = ys.dropLast ++ [y] := by
        have ne : ys ≠ [] := fun e => by rw [e] at pos; cases pos
        have := List.dropLast_concat_getLast ne
        rw [List.getLast_eq_getElem] at this
        rw [List.getElem?_eq_getElem (by omega)] at hy
        rw [Option.some.inj hy] at this
        exact this.symm
      have hYin : y ∈ ys := List.mem_of_getElem? hy
      have dw1 : DpAll K J ws.dropLast (ys.dropLast.map stgD) := by
        have e : ys.dropLast.map stgD = (ys.map stgD).take (ws.length - 1) := by rw [List.dropLast_eq_take, List.map_take, lw]
        rw [e, List.dropLast_eq_take]
        exact dpAll_take _ dw
      refine ⟨fun σ' J' => ∃ m', m' < (60000 - ss.length) * 21 + ys.length ∧ _, fun σ' J' h => h, ?_⟩
      refine ⟨_, rfl, .inl ⟨rfl, _, SqL.of hR⟩, Rl, ws, v, rfl, rfl, hR, hv, ?_⟩
      have kA : TupK J (upd J Rl (.lst ws.dropLast)) := TupK.lst hR
      have GA : Grow H (upd J Rl (.lst ws.dropLast)) := G.write hRlH
      have hRA : (upd J Rl (.lst ws.dropLast)) Rl = some (.lst ws.dropLast) := upd_same
      have hDA : (upd J Rl (.lst ws.dropLast)) D = some (DictKO w D L) := by rw [upd_ne (ne_of hD1 hR (dictKO_ne fun _ z => by cases z))]; exact hD1
      show gName 4 v _ (upd J Rl (.lst ws.dropLast)) _
      generalize upd J Rl (.lst ws.dropLast) = JA at kA GA hRA hDA ⊢
      have dyA := kA.stg dvy
      have dvA := dv.mono kA fun s _ v q => LeadV.keep kA q
      have dwA := kA.stgs dw1
      have lA : ws.dropLast.length = ys.dropLast.length := by rw [List.length_dropLast, List.length_dropLast, lw]
      have lY : ys.dropLast.length + 1 = ys.length := by rw [List.length_dropLast]; omega
      obtain ⟨yb, yc, ye, rfl, sb, sc, se⟩ := dp_stg18 dyA
      have okY := RchS.ok bo (rys y hYin)
      have rest : ∀ s ∈ ys.dropLast, RchS z r g rs s := fun s hs => rys s (List.dropLast_subset _ hs)
      have split : ∀ s, s ∈ ys ↔ s ∈ ys.dropLast ∨ s = y := fun s => by
        rw [ey, List.dropLast_concat, List.mem_append, List.mem_singleton]
      refine ⟨_, rfl, _, rfl, D, L, yb, stgD y, rfl, rfl, hDA, dvA.keys, IsKeyAt.stg dyA, fun c hc => ⟨c, rfl, ite2 (fun e => ?_) (fun e => ?_)⟩⟩
      · have nin : y ∉ ss := fun h => hc.mp e (dvA.mem.mpr h)
        obtain ⟨o1, o2, o3, o4, o5, o6, o7⟩ := okY
        obtain ⟨i, hi⟩ : ∃ i : Nat, y.2.2.1 = (i : Int) := ⟨y.2.2.1.toNat, by omega⟩
        have il : i < rs.length := by omega
        have hrow : rs[i]? = some rs[i] := List.getElem?_eq_getElem il
        have hne : y.1 ≠ [] := fun e => by rw [e, List.length_nil] at o1; omega
        rw [hi] at se
        refine ⟨_, rfl, _, rfl, _, rfl, .ref th, t, yb, yc, ye, z, r, g, rs, y.1, y.2.1, i, y.2.2.2.1, y.2.2.2.2, rs[i], rfl, growDp GA _ _ hh, growDp GA _ _ ht, sb, sc, hne, by omega, se, hrow, by omega, by omega, GA.t.tab hT3, GA.t.tab hT4, fun ta us2 as JB ans GB hta dus => ?_⟩
        have enx : (prodS (turnsK z r y.1 y.2.1) as).mergeSort leS = nxS z r rs y := by
          rw [answ_is o2 ans]
          unfold nxS
          rw [hi, Int.toNat_natCast, hrow]
        rw [enx] at dus
        have dyB := growDp GB _ _ dyA
        have dvB := dvA.mono (TupK.grow GB) fun s _ v q => LeadV.keep (TupK.grow GB) q
        have dwB := growDpAll GB _ _ dwA
        have hDB := GB.at hDA (fun q => dictKO_ne fun _ z => by cases z)
        have hRB := GB.at hRA
        have lss : ss.length + 1 ≤ 60000 := by
          have := few_stgs bo (ss := y :: ss) (List.nodup_cons.mpr ⟨nin, nd⟩) fun s hs => by
            rcases List.mem_cons.mp hs with rfl | hs
            · exact RchS.ok bo (rys _ hYin)
            · exact RchS.ok bo (rss s hs)
          rwa [List.length_cons] at this
        refine ⟨_, rfl, _, rfl, D, L, yb, stgD y, rfl, rfl, hDB, dvB.keys, IsKeyAt.stg dyB, Nat.lt_of_le_of_lt (by have := dvB.len; omega : L.length ≤ 100000) (by decide), fun M hM => ?_⟩
        have kC : TupK JB (upd JB D (DictKO w D M)) := TupK.dict hDB
        have GC : Grow H (upd JB D (DictKO w D M)) := (GA.trans GB).write hD
        have hDC : (upd JB D (DictKO w D M)) D = some (DictKO w D M) := upd_same
        have hRC : (upd JB D (DictKO w D M)) Rl = some (.lst ws.dropLast) := by rw [upd_ne (ne_of hRB hDB (fun z => dictKO_ne (fun _ z => by cases z) z.symm))]; exact hRB
        show (_ : Hp → Prop) (upd JB D (DictKO w D M))
        generalize upd JB D (DictKO w D M) = JC at kC GC hDC hRC ⊢
        have dyC := kC.stg dyB
        have hlv : LeadV K z r rs JC y (.ref ta) := ⟨ta, us2, rfl, kC.tup (SqT.of hta), kC.stgs dus⟩
        have dvC : DicS K (LeadV K z r rs JC) JC M (ss ++ [y]) := (dvB.mono kC fun s _ v q => LeadV.keep kC q).new nin dyC hlv hM
        have dwC := kC.stgs dwB
        obtain ⟨eb, ev, hin, lt, lus, rfl, htl, dlus⟩ := dvC.get (s := y) (List.mem_append_right _ (List.mem_singleton.mpr rfl))
        have lnx := nxS_len (z := z) (r := r) (g := g) (rs := rs) (s := y) z2 z4
        have llus := dpAll_len dlus
        rw [List.length_map] at llus
        refine ⟨_, rfl, .inl ⟨rfl, _, SqL.of hRC⟩, _, rfl, _, rfl, D, M, yb, stgD y, eb, .ref lt, rfl, rfl, hDC, dvC.keys, IsKeyAt.stg dyC, hin, Rl, lt, ws.dropLast, lus, rfl, rfl, hRC, htl, Nat.le_trans (by omega : ws.dropLast.length + lus.length ≤ 2000000) (by decide), ?_⟩
        have kD : TupK JC (upd JC Rl (.lst (ws.dropLast ++ lus))) := TupK.lst hRC
        have GD : Grow H (upd JC Rl (.lst (ws.dropLast ++ lus))) := GC.write hRlH
        have hRD : (upd JC Rl (.lst (ws.dropLast ++ lus))) Rl = some (.lst (ws.dropLast ++ lus)) := upd_same
        have hDD : (upd JC Rl (.lst (ws.dropLast ++ lus))) D = some (DictKO w D M) := by rw [upd_ne (ne_of hDC hRC (dictKO_ne fun _ z => by cases z))]; exact hDC
        show (_ : Hp → Prop) (upd JC Rl (.lst (ws.dropLast ++ lus)))
        generalize upd JC Rl (.lst (ws.dropLast ++ lus)) = JD at kD GD hRD hDD ⊢
        refine ⟨(60000 - (ss ++ [y]).length) * 21 + (ys.dropLast ++ nxS z r rs y).length, ?_, _, ws.dropLast ++ lus, ss ++ [y], ys.dropLast ++ nxS z r rs y, M, rfl, GD, hDD, dvC.mono kD fun s _ v q => LeadV.keep kD q, hRD, ?_, ?_, ?_, ?_, ?_, ?_, ?_, rfl⟩
        · rw [List.length_append, List.length_append, List.length_singleton]
          omega
        · rw [List.map_append]
          exact dpAll_append (kD.stgs dwC) (kD.stgs dlus)
        · rw [List.nodup_append]
          exact ⟨nd, by simp, fun a ha b hb => by rw [List.mem_singleton.mp hb]; exact fun e => nin (e ▸ ha)⟩
        · intro s hs
          rcases List.mem_append.mp hs with hs | hs
          · exact rss s hs
          · rw [List.mem_singleton.mp hs]
            exact rys y hYin
        · intro s hs
          rcases List.mem_append.mp hs with hs | hs
          · exact rest s hs
          · exact .step (rys y hYin) hs
        · intro s hs
          rcases hF s hs with h | h
          · exact .inl (List.mem_append_left _ h)
          · rcases (split s).mp h with h | h
            · exact .inr (List.mem_append_left _ h)
            · exact .inl (by rw [h]; exact List.mem_append_right _ (List.mem_singleton.mpr rfl))
        · intro s hs u hu
          rcases List.mem_append.mp hs with hs | hs
          · rcases hN s hs u hu with h | h
            · exact .inl (List.mem_append_left _ h)
            · rcases (split u).mp h with h | h
              · exact .inr (List.mem_append_left _ h)
              · exact .inl (by rw [h]; exact List.mem_append_right _ (List.mem_singleton.mpr rfl))
          · rw [List.mem_singleton.mp hs] at hu
            exact .inr (List.mem_append_right _ hu)
        · rw [List.length_append, List.length_append, List.length_singleton]
          omega
      · have yin : y ∈ ss := Classical.byContradiction fun n => e (hc.mpr fun h => n (dvA.mem.mp h))
        refine ⟨(60000 - ss.length) * 21 + ys.dropLast.length, by omega, _, ws.dropLast, ss, ys.dropLast, L, rfl, GA, hDA, dvA, hRA, dwA, nd, rss, rest, fun s hs => ?_, fun s hs u hu => ?_, by omega, rfl⟩
        · rcases hF s hs with h | h
          · exact .inl h
          · rcases (split s).mp h with h | h
            · exact .inr h
            · exact .inl (by rw [h]; exact yin)
        · rcases hN s hs u hu with h | h
          · exact .inl h
          · rcases (split u).mp h with h | h
            · exact .inr h
            · exact .inl (by rw [h]; exact yin)
    · have e0 : ys = [] := by
        have : ¬ (0 : Int) < (ws.length : Int) := fun z => hq (decide_eq_true z)
        exact List.length_eq_zero_iff.mp (by omega)
      refine ⟨_, rfl, ?_⟩
      refine k D L ss J G hD ⟨hD1, dv, nd, fun s => ⟨rss s, fun hs => ?_⟩⟩
      have all : ∀ s, s ∉ ys := fun s => by rw [e0]; exact List.not_mem_nil
      induction hs with
      | first hs => exact (hF _ hs).resolve_right (all _)
      | step _ ht ih => exact (hN _ ih _ ht).resolve_right (all _)
end

/-! ### for each standing those that lead to it -/
/-- the lists that stand for standings -/
def BackV (K : PySem.W.Frag) (ct : Stg → List Stg) (A : Stg → Addr) (H : Hp) (s : Stg) (v : V) : Prop := v = .ref (A s) ∧ ∃ ws : List V, H (A s) = some (.lst ws) ∧ DpAll K H ws ((ct s).map stgD)
structure Back (K : PySem.W.Frag) (w : World) (ct : Stg → List Stg) (A : Stg → Addr) (H : Hp) (B : Addr) (L : Memo) (ss : List Stg) : Prop where
  d : H B = some (DictKO w B L)
  v : DicS K (BackV K ct A H) H L ss
  i : ∀ s ∈ ss, ∀ t ∈ ss, A s = A t → s = t
theorem BackV.grow {K : PySem.W.Frag} {ct : Stg → List Stg} {A : Stg → Addr} {H J : Hp} {s : Stg} {v : V} (g : Grow H J) (h : BackV K ct A H s v) : BackV K ct A J s v := let ⟨e, ws, h1, h2⟩ := h; ⟨e, ws, g.at h1, growDpAll g _ _ h2⟩
theorem Back.grow {K : PySem.W.Frag} {w : World} {ct : Stg → List Stg} {A : Stg → Addr} {H J : Hp} {B : Addr} {L : Memo} {ss : List Stg} (h : Back K w ct A H B L ss) (g : Grow H J) : Back K w ct A J B L ss :=
  ⟨g.at h.d (fun q => dictKO_ne fun _ z => by cases z), h.v.mono (TupK.grow g) fun s _ v q => q.grow g, h.i⟩
/-- a standing put behind the list of another one -/
theorem Back.app {K : PySem.W.Frag} {w : World} {ct : Stg → List Stg} {A : Stg → Addr} {H : Hp} {B : Addr} {L : Memo} {ss : List Stg} {s t : Stg} {ws : List V} {x : V} (h : Back K w ct A H B L ss) (hs : s ∈ ss) (hl : H (A s) = some (.lst ws)) (hx : Dp K H x (stgD t)) :
    Back K w (fun u => if u = s then ct s ++ [t] else ct u) A (upd H (A s) (.lst (ws ++ [x]))) B L ss := by
  have k : TupK H (upd H (A s) (.lst (ws ++ [x]))) := TupK.lst hl
  refine ⟨by rw [upd_ne (ne_of h.d hl (dictKO_ne fun _ z => by cases z))]; exact h.d, h.v.mono k fun u hu v ⟨e, us, h1, h2⟩ => ⟨e, ?_⟩, h.i⟩
  by_cases c : u = s
  · subst c
    rw [hl] at h1
    cases h1
    refine ⟨ws ++ [x], upd_same, ?_⟩
    show DpAll K _ _ (List.map stgD (if u = u then ct u ++ [t] else ct u))
    rw [if_pos rfl, List.map_append]
    exact dpAll_append (k.stgs h2) (.cons (k.stg hx) .nil)
  · refine ⟨us, by rw [upd_ne fun z => c (h.i u hu s hs z)]; exact h1, ?_⟩
    show DpAll K _ _ (List.map stgD (if u = s then ct s ++ [t] else ct u))
    rw [if_neg c]
    exact k.stgs h2
theorem lock_keys {w : World} {H : Hp} {D : Addr} {L : Memo} (od : Obj) (hD : H D = some (DictKO w D L)) : TupK H (upd H D (.frz od (DictKO w D L))) := TupK.dict hD
theorem unlock_grow {H J : Hp} {D : Addr} {u : HO} {od : Obj} (hD : H D = some u) (nt : ∀ q, u ≠ .tbl q) (g : Grow (upd H D (.frz od u)) J) : Grow H (upd J D u) := by
  have other : ∀ b o, b ≠ D → H b = some o → upd H D (.frz od u) b = some o := fun b o n e => by rw [upd_ne n]; exact e
  refine ⟨fun b o e => ?_, fun b q e => ?_⟩
  · obtain ⟨e1, e2⟩ := offT_some e
    by_cases c : b = D
    · rw [c, hD] at e1
      cases e1
      rw [c]
      exact offT_at upd_same e2
    · exact offT_at (by rw [upd_ne c]; exact g.at (other b o c e1) e2) e2
  · have c : b ≠ D := fun z => by
      rw [z, hD] at e
      exact nt _ (Option.some.inj e)
    obtain ⟨q', e', f⟩ := g.t b q (other b _ c e)
    exact ⟨q', by rw [upd_ne c]; exact e', f⟩
/-- what is behind so many standings -/
def backL (nx : Stg → List Stg) (ss : List Stg) (s : Stg) : List Stg := ss.filter fun t => decide (s ∈ nx t)
theorem Back.congr {K : PySem.W.Frag} {w : World} {ct ct' : Stg → List Stg} {A : Stg → Addr} {H : Hp} {B : Addr} {L : Memo} {ss : List Stg} (h : Back K w ct A H B L ss) (e : ∀ s ∈ ss, ct s = ct' s) : Back K w ct' A H B L ss :=
  ⟨h.d, h.v.mono (TupK.refl H) fun s hs v ⟨a, ws, h1, h2⟩ => ⟨a, ws, h1, by rw [← e s hs]; exact h2⟩, h.i⟩
theorem grow_lock {H J : Hp} {D : Addr} {o : HO} (g : Grow H J) (nt : ∀ q, o ≠ .tbl q) : Grow (upd H D o) (upd J D o) := by
  refine ⟨fun b u e => ?_, fun b q e => ?_⟩
  · obtain ⟨e1, e2⟩ := offT_some e
    by_cases c : b = D
    · rw [c, upd_same] at e1
      rw [c]
      exact offT_at (upd_same.trans e1) e2
    · rw [upd_ne c] at e1
      exact offT_at (by rw [upd_ne c]; exact g.at e1 e2) e2
  · by_cases c : b = D
    · rw [c, upd_same] at e
      exact absurd (Option.some.inj e) (nt q)
    · rw [upd_ne c] at e
      obtain ⟨q', e', f⟩ := g.t b q e
      exact ⟨q', by rw [upd_ne c]; exact e', f⟩
theorem walk_itemsN {w : World} {d : Addr} {o : Obj} {L : List (PyData × Addr × V)} : Walk (Itin w d o L) L.length (fun H => H d = some (.frz o (DictKO w d L))) (fun i H x H' => ∃ (T : Addr) (k : PyData) (b : Addr) (v : V), L[i]? = some (k, b, v) ∧ x = .ref T ∧ H T = none ∧ H' = upd H T (.tup [.ref b, v])) :=
  ⟨fun i _ hi q => ⟨q, hi⟩, fun _ q => ⟨q, Nat.le_refl _⟩, fun i H x H' _ q y => y⟩
def sp_back (K : PySem.W.Frag) (w : World) : Sp := fun vs H Q _ => ∃ (D : Addr) (z r g : Int) (rs : List Row) (L : Memo) (ss : List Stg), vs = [.ref D] ∧ Both z r g rs ∧ Leads K w z r g rs H D L ss ∧ (∀ s ∈ ss, (nxS z r rs s).Nodup) ∧
  ∀ (B : Addr) (M : Memo) (A : Stg → Addr) (J : Hp), Grow H J → H B = none → Back K w (backL (nxS z r rs) ss) A J B M ss → Q (.ref B) J
section
variable {P : Program} {w : World} {K : PySem.W.Frag} {mg : Str → Option Value} {base : Heap}
theorem ok_back (T : Txt K mg) : FnOk P w K mg base CX0 1 T.a_ways_back T.d_ways_back ["leads"] (sp_back K w) := by
  refine T.F_ways_back.ok sc_ways_back (fun vs H Q E h => ?_) (fun cdv A outer s H vs Q E hr h => ?_)
  · obtain ⟨D, z, r, g, rs, L, ss, rfl, _⟩ := h
    rfl
  · obtain ⟨D, z, r, g, rs, L, ss, rfl, bo, ld, ndx, k⟩ := h
    refine ⟨_, (pss_cons (ps_lock (ps_setDcn (i := 1) (own := [("standing", 2)]) (g := gName 2) (hu64 hr) (by rfl) sc_ways_back.nd rfl rfl (sw_dict rfl rfl rfl (by decide +kernel)) (pi_keysN (pv 0)) (blkOk_by (own := [("standing", 2)]) (N := ["leads", "back", "standing", "later", "one"]) (sc := defScope s_ways_back) (by decide +kernel)) (fun _ _ _ _ _ => (pg_name (i := 2) sc_ways_back.nd rfl (Or.inl rfl))) (fun _ _ _ _ _ => pts_nil) (fun _ _ _ _ _ => (pv 2)) (fun _ _ _ _ _ => (pe_lst pa_nil))))
      (pss_cons (ps_lock (ps_for PassesOwn.never rfl (pi_itemsN (pv 0)) (pg_tup (by rfl) (pgs_cons (pg_name (i := 2) sc_ways_back.nd rfl (Or.inl rfl)) (pgs_cons (pg_name (i := 3) sc_ways_back.nd rfl (Or.inl rfl)) pgs_nil)))
        (pss_one (ps_for PassesOwn.never rfl (pi_tup (pv 3)) (pg_name (i := 4) sc_ways_back.nd rfl (Or.inl rfl))
        (pss_one (ps_expr (pe_bm PySem.F.plainAttrs_list PySem.F.slot_list_append PySem.F.type_list_append mt_append (pe_nget (hu64 hr) (pv 1) (pv 4) (fun _ _ => rfl)) (pa_cons (pv 2) pa_nil))))))))
      (pss_one (ps_ret (pv 1))))), ?_⟩
    have lL := ld.v.len
    refine ⟨D, _, ld.d, True.intro, fun od => ?_⟩
    have hf : (upd H D (.frz od (DictKO w D L))) D = some (.frz od (DictKO w D L)) := upd_same
    have kf := lock_keys od ld.d
    have vf := ld.v.mono kf fun s _ v q => LeadV.keep kf q
    have unl := fun J (g : Grow (upd H D (.frz od (DictKO w D L))) J) => unlock_grow ld.d (fun q => dictKO_ne fun _ z => by cases z) g
    have few : ss.length ≤ 60000 := few_stgs bo ld.n fun s hs => RchS.ok bo ((ld.m s).mp hs)
    have freeH : ∀ b, (upd H D (.frz od (DictKO w D L))) b = none → H b = none := fun b e => by
      by_cases c : b = D
      · rw [c, upd_same] at e
        cases e
      · rw [upd_ne c] at e
        exact e
    generalize upd H D (.frz od (DictKO w D L)) = Hf at hf kf vf unl freeH ⊢
    refine ⟨_, rfl, D, od, L, rfl, hf, fun B hB => ?_⟩
    refine dcn_it (walk_keysN (w := w) (d := D) (o := od) (L := L)) (fun i G => ∃ (M : Memo) (A : Stg → Addr), Grow Hf G ∧ Back K w (fun _ => []) A G B M (ss.take i) ∧ ∀ s ∈ ss.take i, Hf (A s) = none) ⟨[], fun _ => 0, Grow.new hB, ⟨upd_same, .nil, fun s hs => absurd hs List.not_mem_nil⟩, fun s hs => absurd hs List.not_mem_nil⟩ (fun i G _ ⟨_, _, g, _⟩ => g.at hf) ?_ ?_
    · rintro i x G G' hi ⟨M, A, g, bk, new⟩ ⟨rfl, hx⟩
      rw [List.getElem?_map] at hx
      obtain ⟨q, hq, rfl⟩ := Option.map_eq_some_iff.mp hx
      obtain ⟨s, hs, e1, e2, e3⟩ := vf.nth hq
      have his : i < ss.length := (List.getElem?_eq_some_iff.mp hs).1
      have tk : ss.take (i + 1) = ss.take i ++ [s] := by rw [List.take_add_one, hs]; rfl
      have snin : s ∉ ss.take i := fun h => by
        have := ld.n
        rw [← List.take_append_drop (i + 1) ss, tk, List.append_assoc, List.nodup_append] at this
        exact this.2.2 s h s (List.mem_cons_self) rfl
      refine ⟨rfl, ?_⟩
      unfold tYes
      refine iteT ⟨_, rfl, by show 0 ≤ sizeLine; decide, fun l hl => ?_⟩
      have gl : Grow G' (upd G' l (.lst [])) := Grow.new hl
      have hl5 : (upd G' l (.lst [])) l = some (.lst []) := upd_same
      have bk5 := bk.grow gl
      have g5 := g.trans gl
      have lfree : Hf l = none := g.free hl
      have apart : ∀ u ∈ ss.take i, A u ≠ l := fun u hu e => by
        obtain ⟨b, v, _, _, ws, h1, _⟩ := bk.v.get hu
        rw [e, hl] at h1
        cases h1
      show ∃ L b d, _ ∧ (upd G' l (.lst [])) B = _ ∧ _
      generalize upd G' l (.lst []) = G5 at gl hl5 bk5 g5 ⊢
      have dk := growDp g5 _ _ e2
      have lM := bk5.v.len
      rw [List.length_take] at lM
      refine ⟨M, q.2.1, stgD s, rfl, bk5.d, bk5.v.keys, IsKeyAt.stg dk, Nat.lt_of_le_of_lt (by omega : M.length ≤ 100000) (by decide), fun M2 hM2 => ?_⟩
      have kT : TupK G5 (upd G5 B (DictKO w B M2)) := TupK.dict bk5.d
      obtain ⟨A', a1, a2⟩ : ∃ A' : Stg → Addr, (∀ u, u ≠ s → A' u = A u) ∧ A' s = l := ⟨fun u => if u = s then l else A u, fun u h => if_neg h, if_pos rfl⟩
      have ne : ∀ u ∈ ss.take i, u ≠ s := fun u hu z => snin (z ▸ hu)
      have F1 : DicS K (BackV K (fun _ => []) A' (upd G5 B (DictKO w B M2))) (upd G5 B (DictKO w B M2)) M (ss.take i) := bk5.v.mono kT fun u hu v ⟨e, ws, h1, h2⟩ => by
        refine ⟨by rw [a1 u (ne u hu)]; exact e, ws, ?_, kT.stgs h2⟩
        rw [a1 u (ne u hu), upd_ne (ne_of h1 bk5.d (fun z => dictKO_ne (fun _ z => by cases z) z.symm))]
        exact h1
      have F2 : BackV K (fun _ => []) A' (upd G5 B (DictKO w B M2)) s (.ref l) := by
        refine ⟨by rw [a2], [], ?_, .nil⟩
        rw [a2, upd_ne (ne_of hl5 bk5.d (fun z => dictKO_ne (fun _ z => by cases z) z.symm))]
        exact hl5
      refine ⟨M2, A', g5.write hB, ⟨upd_same, by rw [tk]; exact F1.new snin (kT.stg dk) F2 hM2, fun u hu t ht e => ?_⟩, fun u hu => ?_⟩
      · rw [tk] at hu ht
        rcases List.mem_append.mp hu with hu | hu
        · rcases List.mem_append.mp ht with ht | ht
          · rw [a1 u (ne u hu), a1 t (ne t ht)] at e
            exact bk.i u hu t ht e
          · rw [a1 u (ne u hu), List.mem_singleton.mp ht, a2] at e
            exact absurd e (apart u hu)
        · rcases List.mem_append.mp ht with ht | ht
          · rw [a1 t (ne t ht), List.mem_singleton.mp hu, a2] at e
            exact absurd e.symm (apart t ht)
          · rw [List.mem_singleton.mp hu, List.mem_singleton.mp ht]
      · rw [tk] at hu
        rcases List.mem_append.mp hu with hu | hu
        · rw [a1 u (ne u hu)]
          exact new u hu
        · rw [List.mem_singleton.mp hu, a2]
          exact lfree
    · rintro G ⟨M, A, g, bk, new⟩
      rw [lL, List.take_length] at bk new
      have gH := unl G g
      refine ⟨g.at hf, ?_⟩
      have bkH : Back K w (fun _ => []) A (upd G D (DictKO w D L)) B M ss := by
        have gD := g.at hf
        have k : TupK G (upd G D (DictKO w D L)) := TupK.lock gD
        refine ⟨by rw [upd_ne (ne_of bk.d gD (dictKO_ne fun _ z => by cases z))]; exact bk.d, bk.v.mono k fun u hu v ⟨e, ws, h1, h2⟩ => ⟨e, ws, ?_, k.stgs h2⟩, bk.i⟩
        rw [upd_ne (ne_of h1 gD (by intro z; cases z))]
        exact h1
      have newH : ∀ s ∈ ss, H (A s) = none := fun s hs => freeH _ (new s hs)
      have hBH : H B = none := freeH _ hB
      show (_ : Hp → Prop) (upd G D (DictKO w D L))
      generalize upd G D (DictKO w D L) = G1 at gH bkH ⊢
      clear g bk new hB unl vf kf hf freeH
      have ld1 := ld.grow gH
      refine ⟨D, _, ld1.d, True.intro, fun od2 => ?_⟩
      have hD1 : G1 D = some (DictKO w D L) := ld1.d
      have dH : H D = some (DictKO w D L) := ld.d
      have gL : Grow (upd H D (.frz od2 (DictKO w D L))) (upd G1 D (.frz od2 (DictKO w D L))) := grow_lock gH (fun q z => by cases z)
      have unl2 := fun J (g : Grow (upd H D (.frz od2 (DictKO w D L))) J) => unlock_grow dH (fun q => dictKO_ne fun _ z => by cases z) g
      have kf2 := lock_keys od2 hD1
      have vf2 := ld1.v.mono kf2 fun s _ v q => LeadV.keep kf2 q
      have hf2 : (upd G1 D (.frz od2 (DictKO w D L))) D = some (.frz od2 (DictKO w D L)) := upd_same
      have bk2 : Back K w (backL (nxS z r rs) []) A (upd G1 D (.frz od2 (DictKO w D L))) B M ss := by
        refine ⟨by rw [upd_ne fun z => by rw [z] at hBH; rw [dH] at hBH; cases hBH]; exact bkH.d, bkH.v.mono kf2 fun u hu v ⟨e, ws, h1, h2⟩ => ⟨e, ws, ?_, kf2.stgs h2⟩, bkH.i⟩
        rw [upd_ne (ne_of h1 hD1 (fun z => dictKO_ne (fun _ z => by cases z) z.symm))]
        exact h1
      have freeL : ∀ s ∈ ss, (upd H D (.frz od2 (DictKO w D L))) (A s) = none := fun s hs => by
        rw [upd_ne fun z => by have := newH s hs; rw [z, dH] at this; cases this]
        exact newH s hs
      generalize upd H D (.frz od2 (DictKO w D L)) = HL at gL unl2 freeL
      show tFor _ _ _ _ _ (upd G1 D (.frz od2 (DictKO w D L)))
      generalize upd G1 D (.frz od2 (DictKO w D L)) = GF at gL kf2 vf2 hf2 bk2 ⊢
      refine ⟨_, rfl, D, od2, L, rfl, hf2, for_it (walk_itemsN (w := w) (d := D) (o := od2) (L := L)) (fun i σ J => ∃ (y2 y3 y4 : Option V), σ = [some (.ref D), some (.ref B), y2, y3, y4] ∧ J D = some (.frz od2 (DictKO w D L)) ∧ Grow HL J ∧ TupK GF J ∧ Back K w (backL (nxS z r rs) (ss.take i)) A J B M ss) ⟨_, _, _, rfl, hf2, gL, TupK.refl _, bk2⟩ (fun i σ J _ ⟨_, _, _, _, e, _⟩ => e) ?_ ?_⟩
      · rintro i x σ J J' hi ⟨y2, y3, y4, rfl, hJ, gJ, kJ, bkJ⟩ ⟨Tp, kd, b, v, hL, rfl, hTn, rfl⟩
        obtain ⟨s, hs, e1, e2, lt, us, rfl, htl, dus⟩ := vf2.nth hL
        dsimp only at e1 e2
        have his : i < ss.length := (List.getElem?_eq_some_iff.mp hs).1
        have sIn := List.mem_of_getElem? hs
        have tk : ss.take (i + 1) = ss.take i ++ [s] := by rw [List.take_add_one, hs]; rfl
        have gT : Grow J (upd J Tp (.tup [.ref b, .ref lt])) := Grow.new hTn
        have hTp : (upd J Tp (.tup [.ref b, .ref lt])) Tp = some (.tup [.ref b, .ref lt]) := upd_same
        have hJ1 := gT.at hJ
        have gJ1 := gJ.trans gT
        have kJ1 := kJ.trans (TupK.grow gT)
        have bkJ1 := bkJ.grow gT
        generalize upd J Tp (.tup [.ref b, .ref lt]) = J1 at hTp hJ1 gJ1 kJ1 bkJ1 ⊢
        have lus := dpAll_len dus
        rw [List.length_map] at lus
        refine ⟨Tp, _, rfl, SqT.of hTp, rfl, _, _, rfl, _, _, rfl, rfl, ?_⟩
        refine ⟨_, rfl, lt, rfl, ⟨_, kJ1.tup htl⟩, for_tup (K := K) (a := lt) (xs := us) (fun j σ' N => ∃ y4 : Option V, σ' = [some (.ref D), some (.ref B), some (.ref b), some (.ref lt), y4] ∧ N D = some (.frz od2 (DictKO w D L)) ∧ Grow HL N ∧ TupK GF N ∧ Back K w (fun u => backL (nxS z r rs) (ss.take i) u ++ if u ∈ (nxS z r rs s).take j then [s] else []) A N B M ss) ⟨_, rfl, hJ1, gJ1, kJ1, bkJ1.congr fun u _ => by rw [List.take_zero, if_neg List.not_mem_nil, List.append_nil]⟩ (fun j σ' N _ ⟨_, _, _, _, kN, _⟩ => kN.tup htl) ?_ ?_⟩
        · rintro j x σ' N hx ⟨y4', rfl, hN, gN, kN, bkN⟩
          obtain ⟨d3, hd3, dx3⟩ := dpAll_get dus hx
          rw [List.getElem?_map] at hd3
          obtain ⟨one, hone, rfl⟩ := Option.map_eq_some_iff.mp hd3
          have oneIn : one ∈ ss := ld.closed s sIn one (List.mem_of_getElem? hone)
          obtain ⟨ob, rfl⟩ := dp_ref dx3
          have dxN := kN.stg dx3
          obtain ⟨eb, ev, hin, rfl, ws, hws, dws⟩ := bkN.v.get oneIn
          have lws := dpAll_len dws
          have few2 : (backL (nxS z r rs) (ss.take i) one).length ≤ 60000 := by
            unfold backL
            exact Nat.le_trans (List.length_filter_le _ _) (by rw [List.length_take]; omega)
          have few3 : ws.length ≤ 60001 := by
            rw [lws, List.length_map, List.length_append]
            split <;> simp <;> omega
          refine ⟨_, rfl, _, rfl, B, M, ob, stgD one, eb, .ref (A one), rfl, rfl, bkN.d, bkN.v.keys, IsKeyAt.stg dxN, hin, .inl ⟨rfl, _, SqL.of hws⟩, _, rfl, A one, ws, .ref b, rfl, rfl, hws, Nat.lt_of_le_of_lt few3 (by decide), ?_⟩
          have nDA : D ≠ A one := ne_of hN hws (by intro z; cases z)
          refine ⟨_, rfl, by rw [upd_ne nDA]; exact hN, gN.write (freeL one oneIn), kN.trans (TupK.lst hws), (bkN.app oneIn hws (kN.stg e2)).congr fun u _ => ?_⟩
          have jl : j < (nxS z r rs s).length := (List.getElem?_eq_some_iff.mp hone).1
          have nin : one ∉ (nxS z r rs s).take j := fun h => by
            have nd := ndx s sIn
            have sp : (nxS z r rs s) = (nxS z r rs s).take j ++ one :: (nxS z r rs s).drop (j + 1) := by
              have e : (nxS z r rs s)[j] = one := (List.getElem?_eq_some_iff.mp hone).2
              rw [← e, List.getElem_cons_drop, List.take_append_drop]
            rw [sp, List.nodup_append] at nd
            exact nd.2.2 one h one List.mem_cons_self rfl
          have tk1 : (nxS z r rs s).take (j + 1) = (nxS z r rs s).take j ++ [one] := by rw [List.take_add_one, hone]; rfl
          show (if u = one then _ else _) = _
          rw [tk1]
          by_cases c : u = one
          · rw [if_pos c, c, if_neg nin, List.append_nil, if_pos (List.mem_append_right _ (List.mem_singleton.mpr rfl))]
          · rw [if_neg c]
            by_cases c2 : u ∈ (nxS z r rs s).take j
            · rw [if_pos c2, if_pos (List.mem_append_left _ c2)]
            · rw [if_neg c2, if_neg fun h => (List.mem_append.mp h).elim c2 fun h => c (List.mem_singleton.mp h)]
        · rintro σ' N ⟨y4', rfl, hN, gN, kN, bkN⟩
          rw [lus, List.take_length] at bkN
          refine ⟨_, _, _, rfl, hN, gN, kN, bkN.congr fun u _ => ?_⟩
          unfold backL
          rw [tk, List.filter_append, List.filter_cons, List.filter_nil]
          by_cases c : u ∈ nxS z r rs s
          · rw [if_pos c, if_pos (decide_eq_true c)]
          · rw [if_neg c, if_neg (by simpa using c)]
      · rintro σ J ⟨y2, y3, y4, rfl, hJ, gJ, kJ, bkJ⟩
        rw [lL, List.take_length] at bkJ
        refine ⟨hJ, _, rfl, ?_⟩
        refine k B M A _ (unl2 J gJ) hBH ?_
        have k3 : TupK J (upd J D (DictKO w D L)) := TupK.lock hJ
        refine ⟨by rw [upd_ne (ne_of bkJ.d hJ (dictKO_ne fun _ z => by cases z))]; exact bkJ.d, bkJ.v.mono k3 fun u hu v ⟨e, ws, h1, h2⟩ => ⟨e, ws, ?_, k3.stgs h2⟩, bkJ.i⟩
        rw [upd_ne (ne_of h1 hJ (by intro z; cases z))]
        exact h1
end

/-! ### the standings from which it is surely served, each behind all that it leads to -/
def IntV (m : Stg → Int) (s : Stg) (v : V) : Prop := v = .int (m s)
theorem Back.other {K : PySem.W.Frag} {w : World} {ct : Stg → List Stg} {A : Stg → Addr} {H J : Hp} {B : Addr} {L : Memo} {ss : List Stg} (h : Back K w ct A H B L ss) (k : TupK H J) (hB : J B = H B) (hA : ∀ s ∈ ss, J (A s) = H (A s)) : Back K w ct A J B L ss :=
  ⟨by rw [hB]; exact h.d, h.v.mono k fun s hs v ⟨e, ws, h1, h2⟩ => ⟨e, ws, by rw [hA s hs]; exact h1, k.stgs h2⟩, h.i⟩
/-- how many of those that it leads to are not in the order -/
def missN (nx : Stg → List Stg) (os : List Stg) (s : Stg) : Nat := ((nx s).filter fun t => !decide (t ∈ os)).length
theorem miss_zero {nx : Stg → List Stg} {os : List Stg} {s : Stg} : missN nx os s = 0 ↔ ∀ t ∈ nx s, t ∈ os := by
  unfold missN
  rw [List.length_eq_zero_iff, List.filter_eq_nil_iff]
  simp
theorem miss_snoc {nx : Stg → List Stg} {os : List Stg} {s p : Stg} (nd : (nx s).Nodup) (np : p ∉ os) : missN nx os s = missN nx (os ++ [p]) s + if p ∈ nx s then 1 else 0 := by
  unfold missN
  have key : ∀ l : List Stg, l.Nodup → (l.filter fun t => !decide (t ∈ os)).length = (l.filter fun t => !decide (t ∈ os ++ [p])).length + if p ∈ l then 1 else 0 := by
    intro l
    induction l with
    | nil => exact fun _ => rfl
    | cons x l ih =>
      intro nd
      obtain ⟨n1, n2⟩ := List.nodup_cons.mp nd
      have ih := ih n2
      by_cases c : x = p
      · subst c
        rw [if_neg n1] at ih
        rw [List.filter_cons_of_pos (by simpa using np), List.filter_cons_of_neg (by simp), if_pos List.mem_cons_self, List.length_cons, ih]
      · have e : (p ∈ x :: l) ↔ p ∈ l := by
          rw [List.mem_cons]
          exact ⟨fun h => h.elim (fun z => absurd z.symm c) id, .inr⟩
        by_cases d : x ∈ os
        · rw [List.filter_cons_of_neg (by simpa using d), List.filter_cons_of_neg (by simp [d]), ih]
          simp only [e]
        · rw [List.filter_cons_of_pos (by simpa using d), List.filter_cons_of_pos (by simp [d, c]), List.length_cons, List.length_cons, ih]
          simp only [e]
          omega
  exact key _ nd
/-- the order one longer, and what is ready then -/
theorem order_next {nx : Stg → List Stg} {ss os zs : List Stg} {y : Stg} (ssn : ss.Nodup) (hn : ∀ s ∈ ss, (nx s).Nodup) (nd : (os ++ (zs ++ [y])).Nodup) (sub : ∀ s ∈ os ++ (zs ++ [y]), s ∈ ss) (hz : ∀ s ∈ ss, missN nx os s = 0 ↔ s ∈ os ++ (zs ++ [y])) :
    (os ++ [y] ++ (zs ++ (backL nx ss y).filter fun t => decide (missN nx (os ++ [y]) t = 0))).Nodup ∧ (∀ s ∈ os ++ [y] ++ (zs ++ (backL nx ss y).filter fun t => decide (missN nx (os ++ [y]) t = 0)), s ∈ ss) ∧
    ∀ s ∈ ss, missN nx (os ++ [y]) s = 0 ↔ s ∈ os ++ [y] ++ (zs ++ (backL nx ss y).filter fun t => decide (missN nx (os ++ [y]) t = 0)) := by
  have ynos : y ∉ os := fun h => by
    rw [List.nodup_append] at nd
    exact nd.2.2 y h y (List.mem_append_right _ (List.mem_singleton.mpr rfl)) rfl
  have memB : ∀ t, t ∈ backL nx ss y ↔ t ∈ ss ∧ y ∈ nx t := fun t => by
    unfold backL
    rw [List.mem_filter, decide_eq_true_iff]
  have memF : ∀ t, t ∈ (backL nx ss y).filter (fun t => decide (missN nx (os ++ [y]) t = 0)) ↔ (t ∈ ss ∧ y ∈ nx t) ∧ missN nx (os ++ [y]) t = 0 := fun t => by
    rw [List.mem_filter, decide_eq_true_iff, memB]
  have pm : (os ++ (zs ++ [y])).Perm (os ++ [y] ++ zs) := by
    rw [List.append_assoc]
    exact List.Perm.append_left _ List.perm_append_comm
  have hin : ∀ s, s ∈ os ++ (zs ++ [y]) ↔ s ∈ os ++ [y] ++ zs := fun s => pm.mem_iff
  have new : ∀ t ∈ (backL nx ss y).filter (fun t => decide (missN nx (os ++ [y]) t = 0)), t ∉ os ++ [y] ++ zs := fun t ht h => by
    obtain ⟨⟨h1, h2⟩, _⟩ := (memF t).mp ht
    have := (hz t h1).mpr ((hin t).mpr h)
    exact ynos (miss_zero.mp this y h2)
  rw [← List.append_assoc]
  refine ⟨?_, fun s hs => ?_, fun s hs => ?_⟩
  · rw [List.nodup_append]
    exact ⟨pm.nodup_iff.mp nd, (ssn.filter _).filter _, fun a ha b hb e => new b hb (e ▸ ha)⟩
  · rcases List.mem_append.mp hs with hs | hs
    · exact sub s ((hin s).mpr hs)
    · exact ((memF s).mp hs).1.1
  · have e := miss_snoc (os := os) (hn s hs) ynos
    rw [List.mem_append, memF, ← hin, ← hz s hs]
    by_cases c : y ∈ nx s
    · rw [if_pos c] at e
      exact ⟨fun h => .inr ⟨⟨hs, c⟩, h⟩, fun h => h.elim (fun h => by omega) fun h => h.2⟩
    · rw [if_neg c] at e
      exact ⟨fun h => .inl (by omega), fun h => h.elim (fun h => by omega) fun h => absurd h.1.2 c⟩
def sp_order (K : PySem.W.Frag) (w : World) : Sp := fun vs H Q _ => ∃ (D : Addr) (z r g : Int) (rs : List Row) (L : Memo) (ss : List Stg), vs = [.ref D] ∧ Both z r g rs ∧ Leads K w z r g rs H D L ss ∧ (∀ s ∈ ss, (nxS z r rs s).Nodup) ∧
  ∀ (O : Addr) (wo : List V) (os : List Stg) (J : Hp), Grow H J → J O = some (.lst wo) → DpAll K J wo (os.map stgD) → os.Nodup → (∀ s ∈ os, s ∈ ss) → Topo (nxS z r rs) os → (∀ s ∈ ss, (∀ t ∈ nxS z r rs s, t ∈ os) → s ∈ os) → Q (.ref O) J
section
variable {P : Program} {w : World} {K : PySem.W.Frag} {mg : Str → Option Value} {base : Heap}
theorem ok_order (T : Txt K mg) : FnOk P w K mg base CX0 2 T.a_served_order T.d_served_order ["leads"] (sp_order K w) := by
  have G_ways_back : FnOk P w K mg base CX0 1 T.a_ways_back T.d_ways_back ["leads"] (sp_back K w) := ok_back T
  refine T.F_served_order.ok sc_served_order (fun vs H Q E h => ?_) (fun cdv A outer s H vs Q E hr h => ?_)
  · obtain ⟨D, z, r, g, rs, L, ss, rfl, _⟩ := h
    rfl
  · obtain ⟨D, z, r, g, rs, L, ss, rfl, bo, ld, ndx, k⟩ := h
    refine ⟨_, (pss_cons (ps_set (i := 1) sc_served_order.nd rfl (Or.inl rfl) (pe_call G_ways_back (hr.mono (by omega)) (by rfl) T.g_ways_back T.F_ways_back.kp T.b_ways_back .nil pass0 (pa_cons (pv 0) pa_nil)))
      (pss_cons (ps_set (i := 2) sc_served_order.nd rfl (Or.inr rfl) (pe_lock (pe_dcn (own := [("standing", 3), ("later", 4)]) (g := gTup K 2 (gCons (gName 3) (gCons (gName 4) gNil))) (hu64 hr) (by rfl) sc_served_order.nd (pi_itemsN (pv 0)) (blkOk_by (own := [("standing", 3), ("later", 4)]) (N := ["leads", "back", "missing", "standing", "later", "ready", "order", "one"]) (sc := defScope s_served_order) (by decide +kernel)) (fun _ _ _ _ _ => (pg_pairK K (i := 3) (j := 4) rfl rfl sc_served_order.nd rfl (Or.inl rfl) rfl (Or.inl rfl))) (fun _ _ _ _ _ => pts_nil) (fun _ _ _ _ _ => (pv 3)) (fun _ _ _ _ _ => (pe_callB (id := "len") (lenK K rfl) (by rfl) T.m_len (by decide +kernel) (pa_cons (pv 4) pa_nil))))))
      (pss_cons (ps_lock (ps_setLc (i := 5) (own := [("standing", 3)]) (g := gName 3) (by rfl) sc_served_order.nd rfl rfl (sw_true rfl rfl rfl (by decide +kernel)) (pi_keysN (pv 0)) (blkOk_by (own := [("standing", 3)]) (N := ["leads", "back", "missing", "standing", "later", "ready", "order", "one"]) (sc := defScope s_served_order) (by decide +kernel)) (fun _ _ _ _ _ => (pg_name (i := 3) sc_served_order.nd rfl (Or.inl rfl))) (fun _ _ _ _ _ => (pts_one (pt_cmpR op_eq (pe_ngetK K w rfl rfl (hu64 hr) (pv 2) (pv 3) (fun _ _ => rfl)) pe_int (nomark _)))) (fun _ _ _ _ _ => (pv 3))))
      (pss_cons (ps_set (i := 6) sc_served_order.nd rfl (Or.inl rfl) (pe_lst pa_nil))
      (pss_cons (ps_while PassesOwn.never (pt_cmpR op_gt (pe_callB (id := "len") call_len_seq (by rfl) T.m_len (by decide +kernel) (pa_cons (pv 5) pa_nil)) pe_int (nomark _))
        (pss_cons (ps_set (i := 3) sc_served_order.nd rfl (Or.inl rfl) (pe_bm0 PySem.F.plainAttrs_list PySem.F.slot_list_pop PySem.F.type_list_pop mt_pop (pv 5)))
      (pss_cons (ps_expr (pe_bm PySem.F.plainAttrs_list PySem.F.slot_list_append PySem.F.type_list_append mt_append (pv 6) (pa_cons (pv 3) pa_nil)))
      (pss_one (ps_for PassesOwn.never rfl (pi_list (pe_nget (hu64 hr) (pv 1) (pv 3) (fun _ _ => rfl))) (pg_name (i := 7) sc_served_order.nd rfl (Or.inl rfl))
        (pss_cons (ps_naug (hu64 hr) (pv 2) (pv 7) pe_int in_sub (fun _ _ _ => rfl))
      (pss_one (ps_if (pt_cmpR op_eq (pe_nget (hu64 hr) (pv 2) (pv 7) (fun _ _ => rfl)) pe_int (nomark _))
        (pss_one (ps_expr (pe_bm PySem.F.plainAttrs_list PySem.F.slot_list_append PySem.F.type_list_append mt_append (pv 5) (pa_cons (pv 7) pa_nil))))
        pss_nil))))))))
      (pss_one (ps_ret (pv 6)))))))), ?_⟩
    have lL := ld.v.len
    have few : ss.length ≤ 60000 := few_stgs bo ld.n fun s hs => RchS.ok bo ((ld.m s).mp hs)
    obtain ⟨z2, z4, r1, r6, g0, g3, _⟩ := bo.h
    refine ⟨_, rfl, D, z, r, g, rs, L, ss, rfl, bo, ld, ndx, fun B MB AB J0 G0 hBH bk0 => ?_⟩
    have ld0 := ld.grow G0
    refine ⟨D, _, ld0.d, True.intro, fun od => ?_⟩
    have hf : (upd J0 D (.frz od (DictKO w D L))) D = some (.frz od (DictKO w D L)) := upd_same
    have kf := lock_keys od ld0.d
    have vf := ld0.v.mono kf fun s _ v q => LeadV.keep kf q
    have unl := fun J (g : Grow (upd J0 D (.frz od (DictKO w D L))) J) => unlock_grow ld0.d (fun q => dictKO_ne fun _ z => by cases z) g
    have freeF : ∀ b, (upd J0 D (.frz od (DictKO w D L))) b = none → J0 b = none := fun b e => by
      by_cases c : b = D
      · rw [c, upd_same] at e
        cases e
      · rw [upd_ne c] at e
        exact e
    generalize upd J0 D (.frz od (DictKO w D L)) = Hf at hf kf vf unl freeF ⊢
    refine ⟨_, rfl, D, od, L, rfl, hf, fun Dm hDm => ?_⟩
    refine dcn_it (walk_itemsN (w := w) (d := D) (o := od) (L := L)) (fun i G => ∃ M : Memo, Grow Hf G ∧ G Dm = some (DictKO w Dm M) ∧ DicS K (IntV fun s => ((nxS z r rs s).length : Int)) G M (ss.take i)) ⟨[], Grow.new hDm, upd_same, .nil⟩ (fun i G _ ⟨_, g, _⟩ => g.at hf) ?_ ?_
    · rintro i x G G' hi ⟨M, g, dM, vM⟩ ⟨Tp, kd, b, v, hL, rfl, hTn, rfl⟩
      obtain ⟨s, hs, e1, e2, lt, us, rfl, htl, dus⟩ := vf.nth hL
      dsimp only at e1 e2
      have tk : ss.take (i + 1) = ss.take i ++ [s] := by rw [List.take_add_one, hs]; rfl
      have snin : s ∉ ss.take i := fun h => by
        have := ld.n
        rw [← List.take_append_drop (i + 1) ss, tk, List.append_assoc, List.nodup_append] at this
        exact this.2.2 s h s (List.mem_cons_self) rfl
      have gT : Grow G (upd G Tp (.tup [.ref b, .ref lt])) := Grow.new hTn
      have hTp : (upd G Tp (.tup [.ref b, .ref lt])) Tp = some (.tup [.ref b, .ref lt]) := upd_same
      have g1 := g.trans gT
      have dM1 := gT.at dM (fun q => dictKO_ne fun _ z => by cases z)
      have vM1 := vM.mono (F' := IntV fun s => ((nxS z r rs s).length : Int)) (TupK.grow gT) fun s _ v q => q
      generalize upd G Tp (.tup [.ref b, .ref lt]) = G1 at hTp g1 dM1 vM1 ⊢
      have lus := dpAll_len dus
      rw [List.length_map] at lus
      refine ⟨Tp, _, rfl, SqT.of hTp, rfl, _, _, rfl, _, _, rfl, rfl, ?_⟩
      refine ⟨rfl, ?_⟩
      unfold tYes
      have dk := (TupK.grow g1).stg e2
      have lM := vM1.len
      rw [List.length_take] at lM
      refine iteT ⟨_, rfl, _, rfl, lt, us, rfl, .inr ((TupK.grow g1).tup htl), M, b, stgD s, rfl, dM1, vM1.keys, IsKeyAt.stg dk, Nat.lt_of_le_of_lt (by omega : M.length ≤ 100000) (by decide), fun M2 hM2 => ?_⟩
      refine ⟨M2, g1.write hDm, upd_same, ?_⟩
      rw [tk]
      have kT : TupK G1 (upd G1 Dm (DictKO w Dm M2)) := TupK.dict dM1
      exact (vM1.mono (F' := IntV fun s => ((nxS z r rs s).length : Int)) kT fun s _ v q => q).new snin (kT.stg dk) (by show V.int _ = V.int _; rw [lus]) hM2
    · rintro G ⟨M, g, dM, vM⟩
      rw [lL, List.take_length] at vM
      have gD := g.at hf
      refine ⟨gD, ?_⟩
      have gJ := unl G g
      have kU : TupK G (upd G D (DictKO w D L)) := TupK.lock gD
      have dMU : (upd G D (DictKO w D L)) Dm = some (DictKO w Dm M) := by rw [upd_ne (ne_of dM gD (dictKO_ne fun _ z => by cases z))]; exact dM
      have vMU := vM.mono (F' := IntV fun s => ((nxS z r rs s).length : Int)) kU fun s _ v q => q
      have hDmJ : J0 Dm = none := freeF _ hDm
      show (_ : Hp → Prop) (upd G D (DictKO w D L))
      generalize upd G D (DictKO w D L) = G1 at gJ dMU vMU ⊢
      clear g dM vM gD kU hDm unl vf kf hf freeF
      have bk1 := bk0.grow gJ
      have ld1 := ld0.grow gJ
      have g01 := G0.trans gJ
      have hDmH : H Dm = none := G0.free hDmJ
      have nBDm : ∀ s ∈ ss, AB s ≠ Dm := fun s hs e => by
        obtain ⟨_, _, _, _, ws, h1, _⟩ := bk1.v.get hs
        rw [e, dMU] at h1
        exact dictKO_ne (fun _ z => by cases z) (Option.some.inj h1)
      have nBB : B ≠ Dm := fun e => by
        have := bk0.d
        rw [e, hDmJ] at this
        cases this
      refine ⟨D, _, ld1.d, True.intro, fun od => ?_⟩
      have hf : (upd G1 D (.frz od (DictKO w D L))) D = some (.frz od (DictKO w D L)) := upd_same
      have kf := lock_keys od ld1.d
      have vf := ld1.v.mono kf fun s _ v q => LeadV.keep kf q
      have unl := fun J (g : Grow (upd G1 D (.frz od (DictKO w D L))) J) => unlock_grow ld1.d (fun q => dictKO_ne fun _ z => by cases z) g
      have freeF : ∀ b, (upd G1 D (.frz od (DictKO w D L))) b = none → G1 b = none := fun b e => by
        by_cases c : b = D
        · rw [c, upd_same] at e
          cases e
        · rw [upd_ne c] at e
          exact e
      have nDDm : D ≠ Dm := fun e => by
        have := ld0.d
        rw [e, hDmJ] at this
        cases this
      have dMf : (upd G1 D (.frz od (DictKO w D L))) Dm = some (DictKO w Dm M) := by rw [upd_ne nDDm.symm]; exact dMU
      have vMf := vMU.mono (F' := IntV fun s => ((nxS z r rs s).length : Int)) kf fun s _ v q => q
      generalize upd G1 D (.frz od (DictKO w D L)) = Hf at hf kf vf unl freeF dMf vMf ⊢
      refine ⟨_, rfl, D, od, L, rfl, hf, fun Rl hRl => ?_⟩
      refine lc_it (walk_keysN (w := w) (d := D) (o := od) (L := L)) (fun i G => ∃ ws : List V, Grow Hf G ∧ G Rl = some (.lst ws) ∧ DpAll K G ws (((ss.take i).filter fun s => decide ((nxS z r rs s).length = 0)).map stgD)) ⟨[], Grow.new hRl, upd_same, .nil⟩ (fun i G _ ⟨_, g, _⟩ => g.at hf) ?_ ?_
      · rintro i x G G' hi ⟨ws, g, hR, dw⟩ ⟨rfl, hx⟩
        rw [List.getElem?_map] at hx
        obtain ⟨q, hq, rfl⟩ := Option.map_eq_some_iff.mp hx
        obtain ⟨s, hs, e1, e2, e3⟩ := vf.nth hq
        have tk : ss.take (i + 1) = ss.take i ++ [s] := by rw [List.take_add_one, hs]; rfl
        have his : i < ss.length := (List.getElem?_eq_some_iff.mp hs).1
        have dMg := g.at dMf (fun q => dictKO_ne fun _ z => by cases z)
        have vMg := vMf.mono (F' := IntV fun s => ((nxS z r rs s).length : Int)) (TupK.grow g) fun s _ v q => q
        have dk := growDp g _ _ e2
        obtain ⟨eb, ev, hin, hev⟩ := vMg.get (List.mem_of_getElem? hs)
        have hev : ev = .int _ := hev
        subst hev
        have lws := dpAll_len dw
        have lf : ((ss.take i).filter fun s => decide ((nxS z r rs s).length = 0)).length ≤ 60000 := Nat.le_trans (List.length_filter_le _ _) (by rw [List.length_take]; omega)
        refine ⟨rfl, ?_⟩
        refine ⟨_, rfl, _, rfl, Dm, M, q.2.1, stgD s, eb, _, rfl, rfl, dMg, vMg.keys, IsKeyAt.stg dk, hin, rfl, _, rfl, ?_⟩
        have vd : decide (V.int ((nxS z r rs s).length : Int) = V.int 0) = decide ((nxS z r rs s).length = 0) := by
          by_cases c : (nxS z r rs s).length = 0
          · rw [decide_eq_true c, decide_eq_true (by rw [c]; rfl)]
          · rw [decide_eq_false c, decide_eq_false fun e => c (by have := V.int.inj e; omega)]
        rw [vd, tk, List.filter_append]
        refine ite2 (fun e => ?_) (fun e => ?_)
        · refine ⟨_, rfl, ws, hR, Nat.lt_of_le_of_lt (by rw [lws, List.length_map]; exact lf : ws.length ≤ 60000) (by decide), ws ++ [.ref q.2.1], g.write hRl, upd_same, ?_⟩
          rw [List.filter_cons_of_pos (p := fun s : Stg => decide ((nxS z r rs s).length = 0)) e, List.filter_nil, List.map_append]
          have kT : TupK G' (upd G' Rl (.lst (ws ++ [.ref q.2.1]))) := TupK.lst hR
          exact dpAll_append (kT.stgs dw) (.cons (kT.stg dk) .nil)
        · refine ⟨ws, g, hR, ?_⟩
          rw [List.filter_cons_of_neg (p := fun s : Stg => decide ((nxS z r rs s).length = 0)) e, List.filter_nil, List.append_nil]
          exact dw
      · rintro G ⟨ws, g, hR, dw⟩
        rw [lL, List.take_length] at dw
        have gD := g.at hf
        refine ⟨gD, ?_⟩
        have g1J := unl G g
        have kU : TupK G (upd G D (DictKO w D L)) := TupK.lock gD
        have dMU2 : (upd G D (DictKO w D L)) Dm = some (DictKO w Dm M) := by rw [upd_ne nDDm.symm]; exact g.at dMf (fun q => dictKO_ne fun _ z => by cases z)
        have vM2 := vMU.mono (F' := IntV fun s => ((nxS z r rs s).length : Int)) (TupK.grow g1J) fun s _ v q => q
        have hRU : (upd G D (DictKO w D L)) Rl = some (.lst ws) := by rw [upd_ne (ne_of hR gD (by intro z; cases z))]; exact hR
        have dwU := kU.stgs dw
        have hRlG : G1 Rl = none := freeF _ hRl
        show (_ : Hp → Prop) (upd G D (DictKO w D L))
        generalize upd G D (DictKO w D L) = G2 at g1J dMU2 vM2 hRU dwU ⊢
        clear g hR dw gD kU hRl unl vf kf hf freeF dMf vMf dMU vMU
        have bk2 := bk1.grow g1J
        have g02 := g01.trans g1J
        have hRlH : H Rl = none := g01.free hRlG
        have nBR : ∀ s ∈ ss, AB s ≠ Rl := fun s hs e => by
          obtain ⟨_, _, _, _, ws, h1, _⟩ := bk1.v.get hs
          rw [e, hRlG] at h1
          cases h1
        refine ⟨by show 0 ≤ sizeLine; decide, fun Ol hOl => ?_⟩
        have gO : Grow G2 (upd G2 Ol (.lst [])) := Grow.new hOl
        have hO3 : (upd G2 Ol (.lst [])) Ol = some (.lst []) := upd_same
        have bk3 := bk2.grow gO
        have g03 := g02.trans gO
        have hOlH : H Ol = none := g02.free hOl
        have nBO : ∀ s ∈ ss, AB s ≠ Ol := fun s hs e => by
          obtain ⟨_, _, _, _, ws, h1, _⟩ := bk2.v.get hs
          rw [e, hOl] at h1
          cases h1
        have nRO : Rl ≠ Ol := ne_of_none hRU hOl
        have dM3 := gO.at dMU2 (fun q => dictKO_ne fun _ z => by cases z)
        have vM3 := vM2.mono (F' := IntV fun s => ((nxS z r rs s).length : Int)) (TupK.grow gO) fun s _ v q => q
        have hR3 := gO.at hRU
        have dw3 := growDpAll gO _ _ dwU
        show gName 6 (V.ref Ol) _ (upd G2 Ol (.lst [])) _
        generalize upd G2 Ol (.lst []) = G3 at gO hO3 bk3 g03 dM3 vM3 hR3 dw3 ⊢
        clear gO bk2 g02 dMU2 vM2 hRU dwU g1J bk1 ld1 g01 bk0 G0 ld0
        have ftk : ∀ s ∈ ss, missN (nxS z r rs) [] s = (nxS z r rs s).length := fun s _ => by
          unfold missN
          rw [List.filter_eq_self.mpr fun t _ => by simp]
        refine ⟨fun m σ J => ∃ (y3 y7 : Option V) (ws wo : List V) (ys os : List Stg) (M : Memo) (mm : Stg → Int), σ = [some (.ref D), some (.ref B), some (.ref Dm), y3, none, some (.ref Rl), some (.ref Ol), y7] ∧ Grow H J ∧ Back K w (backL (nxS z r rs) ss) AB J B MB ss ∧ J Dm = some (DictKO w Dm M) ∧ DicS K (IntV mm) J M ss ∧ J Rl = some (.lst ws) ∧ DpAll K J ws (ys.map stgD) ∧ J Ol = some (.lst wo) ∧ DpAll K J wo (os.map stgD) ∧ (os ++ ys).Nodup ∧ (∀ s ∈ os ++ ys, s ∈ ss) ∧ (∀ s ∈ ss, mm s = (missN (nxS z r rs) os s : Int)) ∧ (∀ s ∈ ss, missN (nxS z r rs) os s = 0 ↔ s ∈ os ++ ys) ∧ Topo (nxS z r rs) os ∧ m = ss.length - os.length, ⟨_, _, _, ws, [], _, [], M, _, rfl, g03, bk3, dM3, vM3, hR3, dw3, hO3, .nil, ?_, ?_, fun s hs => by rw [ftk s hs], fun s hs => ?_, ?_, rfl⟩, ?_⟩
        · exact ld.n.filter _
        · exact fun s hs => (List.mem_filter.mp hs).1
        · rw [ftk s hs, List.nil_append, List.mem_filter, decide_eq_true_iff]
          exact ⟨fun h => ⟨hs, h⟩, fun h => h.2⟩
        · intro pre s post e
          cases pre <;> cases e
        · rintro m σ J ⟨y3, y7, ws, wo, ys, os, M, mm, rfl, g, bk, dM, vM, hR, dw, hO, dwo, nd, sub, hmm, hzero, topo, rfl⟩
          have lw := dpAll_len dw
          rw [List.length_map] at lw
          refine ⟨_, rfl, Rl, ws, rfl, .inl (SqL.of hR), _, _, rfl, rfl, _, rfl, ?_⟩
          refine ite2 (fun hq => ?_) (fun hq => ?_)
          · have pos : 0 < ys.length := by have := of_decide_eq_true hq; omega
            obtain ⟨y, hy⟩ : ∃ y, ys[ys.length - 1]? = some y := ⟨_, List.getElem?_eq_getElem (by omega)⟩
            obtain ⟨v, hv⟩ : ∃ v, ws[ws.length - 1]? = some v := ⟨_, List.getElem?_eq_getElem (by omega)⟩
            obtain ⟨dy, hdy, dvy⟩ := dpAll_get dw hv
            rw [List.getElem?_map, lw, hy] at hdy
            cases hdy
            have ey : ys = ys.dropLast ++ [y] := by
              have ne : ys ≠ [] := fun e => by rw [e] at pos; cases pos
              have := List.dropLast_concat_getLast ne
              rw [List.getLast_eq_getElem] at this
              rw [List.getElem?_eq_getElem (by omega)] at hy
              rw [Option.some.inj hy] at this
              exact this.symm
            have dw1 : DpAll K J ws.dropLast (ys.dropLast.map stgD) := by
              have e : ys.dropLast.map stgD = (ys.map stgD).take (ws.length - 1) := by rw [List.dropLast_eq_take, List.map_take, lw]
              rw [e, List.dropLast_eq_take]
              exact dpAll_take _ dw
            have lw1 := dpAll_len dw1
            generalize ys.dropLast = zs at ey dw1 lw1
            subst ey
            have yin : y ∈ ss := sub y (List.mem_append_right _ (List.mem_append_right _ (List.mem_singleton.mpr rfl)))
            have ynos : y ∉ os := fun h => by
              rw [List.nodup_append] at nd
              exact nd.2.2 y h y (List.mem_append_right _ (List.mem_singleton.mpr rfl)) rfl
            have yzero := (hzero y yin).mpr (List.mem_append_right _ (List.mem_append_right _ (List.mem_singleton.mpr rfl)))
            have lnd := List.Nodup.length_le_of_subset nd (l₂ := ss) sub
            have los : os.length + 1 ≤ ss.length := by
              have := lnd
              rw [List.length_append, List.length_append, List.length_singleton] at this
              omega
            obtain ⟨yb, rfl⟩ := dp_ref dvy
            have lwo := dpAll_len dwo
            rw [List.length_map] at lwo
            have nB : ∀ F, F = Rl ∨ F = Ol ∨ F = Dm → B ≠ F ∧ ∀ s ∈ ss, AB s ≠ F := fun F hF => by
              rcases hF with rfl | rfl | rfl
              · exact ⟨ne_of bk.d hR (dictKO_ne fun _ z => by cases z), nBR⟩
              · exact ⟨ne_of bk.d hO (dictKO_ne fun _ z => by cases z), nBO⟩
              · exact ⟨nBB, nBDm⟩
            have bkW : ∀ (J : Hp) (F : Addr) (o : HO), (F = Rl ∨ F = Ol ∨ F = Dm) → TupK J (upd J F o) → Back K w (backL (nxS z r rs) ss) AB J B MB ss → Back K w (backL (nxS z r rs) ss) AB (upd J F o) B MB ss := fun J F o hF kT b => b.other kT (upd_ne (nB F hF).1) fun s hs => upd_ne ((nB F hF).2 s hs)
            have nDR : Dm ≠ Rl := ne_of dM hR (dictKO_ne fun _ z => by cases z)
            have nDO : Dm ≠ Ol := ne_of dM hO (dictKO_ne fun _ z => by cases z)
            refine ⟨_, fun σ' J' h => h, ?_⟩
            refine ⟨_, rfl, .inl ⟨rfl, _, SqL.of hR⟩, Rl, ws, .ref yb, rfl, rfl, hR, hv, ?_⟩
            have kA : TupK J (upd J Rl (.lst ws.dropLast)) := TupK.lst hR
            have bkA := bkW J Rl (.lst ws.dropLast) (.inl rfl) kA bk
            have gA : Grow H (upd J Rl (.lst ws.dropLast)) := g.write hRlH
            have hRA : (upd J Rl (.lst ws.dropLast)) Rl = some (.lst ws.dropLast) := upd_same
            have hOA : (upd J Rl (.lst ws.dropLast)) Ol = some (.lst wo) := by rw [upd_ne nRO.symm]; exact hO
            have dMA : (upd J Rl (.lst ws.dropLast)) Dm = some (DictKO w Dm M) := by rw [upd_ne nDR]; exact dM
            show gName 3 (.ref yb) _ (upd J Rl (.lst ws.dropLast)) _
            generalize upd J Rl (.lst ws.dropLast) = JA at kA bkA gA hRA hOA dMA ⊢
            refine ⟨_, rfl, .inl ⟨rfl, _, SqL.of hOA⟩, _, rfl, Ol, wo, .ref yb, rfl, rfl, hOA, Nat.lt_of_le_of_lt (by omega : wo.length ≤ 60000) (by decide), ?_⟩
            have kB : TupK JA (upd JA Ol (.lst (wo ++ [.ref yb]))) := TupK.lst hOA
            have bkB := bkW JA Ol (.lst (wo ++ [.ref yb])) (.inr (.inl rfl)) kB bkA
            have gB : Grow H (upd JA Ol (.lst (wo ++ [.ref yb]))) := gA.write hOlH
            have hOB : (upd JA Ol (.lst (wo ++ [.ref yb]))) Ol = some (.lst (wo ++ [.ref yb])) := upd_same
            have hRB : (upd JA Ol (.lst (wo ++ [.ref yb]))) Rl = some (.lst ws.dropLast) := by rw [upd_ne nRO]; exact hRA
            have dMB : (upd JA Ol (.lst (wo ++ [.ref yb]))) Dm = some (DictKO w Dm M) := by rw [upd_ne nDO]; exact dMA
            show (_ : Hp → Prop) (upd JA Ol (.lst (wo ++ [.ref yb])))
            generalize upd JA Ol (.lst (wo ++ [.ref yb])) = JB at kB bkB gB hOB hRB dMB ⊢
            have kAB := kA.trans kB
            have dyB := kAB.stg dvy
            have vMB := vM.mono (F' := IntV mm) kAB fun s _ v q => q
            have dwB := kAB.stgs dw1
            have dwoB : DpAll K JB (wo ++ [.ref yb]) ((os ++ [y]).map stgD) := by
              rw [List.map_append]
              exact dpAll_append (kAB.stgs dwo) (.cons dyB .nil)
            obtain ⟨eb, ev, hin, rfl, bs, hbs, dbs⟩ := bkB.v.get yin
            have lbs := dpAll_len dbs
            rw [List.length_map] at lbs
            have ndB : (backL (nxS z r rs) ss y).Nodup := ld.n.filter _
            have memB : ∀ t, t ∈ backL (nxS z r rs) ss y ↔ t ∈ ss ∧ y ∈ nxS z r rs t := fun t => by
              unfold backL
              rw [List.mem_filter, decide_eq_true_iff]
            clear kA bkA gA hRA hOA dMA kB kAB bk g hR hO dM vM dw dwo hv dvy dw1
            refine ⟨_, rfl, _, rfl, B, MB, yb, stgD y, eb, _, rfl, rfl, bkB.d, bkB.v.keys, IsKeyAt.stg dyB, hin, AB y, rfl, ⟨_, SqL.of hbs⟩, ?_⟩
            have lz : zs.length ≤ 60000 := by rw [List.length_append, List.length_append, List.length_singleton] at lnd; omega
            have lB : (backL (nxS z r rs) ss y).length ≤ ss.length := List.length_filter_le _ _
            obtain ⟨on1, on2, on3⟩ := order_next ld.n ndx nd sub hzero
            refine for_list (K := K) (a := AB y) (xs := bs) (fun j σ N => ∃ (y7' : Option V) (M' : Memo) (us : List V), σ = [some (.ref D), some (.ref B), some (.ref Dm), some (.ref yb), none, some (.ref Rl), some (.ref Ol), y7'] ∧ Grow H N ∧ Back K w (backL (nxS z r rs) ss) AB N B MB ss ∧ N Dm = some (DictKO w Dm M') ∧ DicS K (IntV fun s => mm s - if s ∈ (backL (nxS z r rs) ss y).take j then 1 else 0) N M' ss ∧ N Rl = some (.lst us) ∧ DpAll K N us ((zs ++ ((backL (nxS z r rs) ss y).take j).filter fun t => decide (missN (nxS z r rs) (os ++ [y]) t = 0)).map stgD) ∧ N Ol = some (.lst (wo ++ [.ref yb])) ∧ DpAll K N (wo ++ [.ref yb]) ((os ++ [y]).map stgD) ∧ N (AB y) = some (.lst bs) ∧ DpAll K N bs ((backL (nxS z r rs) ss y).map stgD)) ⟨_, M, _, rfl, gB, bkB, dMB, ?_, hRB, ?_, hOB, dwoB, hbs, dbs⟩ (fun j σ N _ ⟨_, _, _, _, _, _, _, _, _, _, _, _, h, _⟩ => SqL.of h) ?_ ?_
            · refine vMB.mono (TupK.refl _) fun s _ v q => ?_
              show v = V.int (mm s - if s ∈ (backL (nxS z r rs) ss y).take 0 then 1 else 0)
              rw [List.take_zero, if_neg List.not_mem_nil, Int.sub_zero]
              exact q
            · rw [List.take_zero, List.filter_nil, List.append_nil]
              exact dwB
            · rintro j x σ N hx ⟨y7', M', us, rfl, gN, bkN, dMN, vMN, hRN, dusN, hON, dwoN, hbN, dbN⟩
              obtain ⟨d, hd, dx⟩ := dpAll_get dbN hx
              rw [List.getElem?_map] at hd
              obtain ⟨t, ht, rfl⟩ := Option.map_eq_some_iff.mp hd
              obtain ⟨tb, rfl⟩ := dp_ref dx
              have tin := memB t |>.mp (List.mem_of_getElem? ht)
              have tk : (backL (nxS z r rs) ss y).take (j + 1) = (backL (nxS z r rs) ss y).take j ++ [t] := by rw [List.take_add_one, ht]; rfl
              have tn : t ∉ (backL (nxS z r rs) ss y).take j := fun h => by
                have := ndB
                rw [← List.take_append_drop (j + 1) (backL (nxS z r rs) ss y), tk, List.append_assoc, List.nodup_append] at this
                exact this.2.2 t h t (List.mem_cons_self) rfl
              obtain ⟨eb', ev, hin', rfl⟩ := vMN.get tin.1
              have e2 : mm t - (if t ∈ (backL (nxS z r rs) ss y).take j then 1 else 0) - 1 = (missN (nxS z r rs) (os ++ [y]) t : Int) := by
                have e := miss_snoc (os := os) (ndx t tin.1) ynos
                rw [if_pos tin.2] at e
                rw [if_neg tn, hmm t tin.1, e]
                omega
              have lM := vMN.len
              refine ⟨_, rfl, _, rfl, Dm, M', tb, stgD t, eb', _, rfl, rfl, dMN, vMN.keys, IsKeyAt.stg dx, hin', ?_⟩
              refine ⟨_, _, rfl, rfl, M', dMN, vMN.keys, IsKeyAt.stg dx, Nat.lt_of_le_of_lt (by omega : M'.length ≤ 100000) (by decide), fun M2 hM2 => ?_⟩
              have kA := TupK.dict (o := DictKO w Dm M2) dMN
              have vA := (vMN.old (F' := IntV fun s => mm s - if s ∈ (backL (nxS z r rs) ss y).take (j + 1) then 1 else 0) tin.1 hM2 (fun u _ ne v q => ?_) ?_).mono (F' := IntV fun s => mm s - if s ∈ (backL (nxS z r rs) ss y).take (j + 1) then 1 else 0) kA fun s _ v q => q
              · have bkA := bkW N Dm (DictKO w Dm M2) (.inr (.inr rfl)) kA bkN
                have gA : Grow H (upd N Dm (DictKO w Dm M2)) := gN.write hDmH
                have dMA : (upd N Dm (DictKO w Dm M2)) Dm = some (DictKO w Dm M2) := upd_same
                have hRA : (upd N Dm (DictKO w Dm M2)) Rl = some (.lst us) := by rw [upd_ne nDR.symm]; exact hRN
                have hOA : (upd N Dm (DictKO w Dm M2)) Ol = some (.lst (wo ++ [.ref yb])) := by rw [upd_ne nDO.symm]; exact hON
                have hbA : (upd N Dm (DictKO w Dm M2)) (AB y) = some (.lst bs) := by rw [upd_ne (nBDm y yin)]; exact hbN
                have dbA := kA.stgs dbN
                have dxA := kA.stg dx
                have dusA := kA.stgs dusN
                have dwoA := kA.stgs dwoN
                show (_ : Hp → Prop) (upd N Dm (DictKO w Dm M2))
                generalize upd N Dm (DictKO w Dm M2) = NA at vA bkA gA dMA hRA hOA hbA dbA dxA dusA dwoA ⊢
                obtain ⟨eb2, ev2, hin2, rfl⟩ := vA.get tin.1
                have lA := vA.len
                refine ⟨_, rfl, _, rfl, Dm, M2, tb, stgD t, eb2, _, rfl, rfl, dMA, vA.keys, IsKeyAt.stg dxA, hin2, rfl, _, rfl, ?_⟩
                have vd : decide (V.int ((fun s => mm s - if s ∈ (backL (nxS z r rs) ss y).take (j + 1) then 1 else 0) t) = V.int 0) = decide (missN (nxS z r rs) (os ++ [y]) t = 0) := by
                  have e3 : (mm t - if t ∈ (backL (nxS z r rs) ss y).take (j + 1) then (1 : Int) else 0) = (missN (nxS z r rs) (os ++ [y]) t : Int) := by
                    rw [if_pos (by rw [tk]; exact List.mem_append_right _ (List.mem_singleton.mpr rfl)), ← e2, if_neg tn]
                    omega
                  show decide (V.int (mm t - if t ∈ (backL (nxS z r rs) ss y).take (j + 1) then (1 : Int) else 0) = V.int 0) = _
                  rw [e3]
                  by_cases c : missN (nxS z r rs) (os ++ [y]) t = 0
                  · rw [decide_eq_true c, decide_eq_true (by rw [c]; rfl)]
                  · rw [decide_eq_false c, decide_eq_false fun e => c (by have := V.int.inj e; omega)]
                rw [vd]
                have lus := dpAll_len dusA
                rw [List.length_map, List.length_append] at lus
                have lft : (((backL (nxS z r rs) ss y).take j).filter fun t => decide (missN (nxS z r rs) (os ++ [y]) t = 0)).length ≤ (backL (nxS z r rs) ss y).length := Nat.le_trans (List.length_filter_le _ _) (by rw [List.length_take]; omega)
                refine ite2 (fun hq => ?_) (fun hq => ?_)
                · refine ⟨_, rfl, .inl ⟨rfl, _, SqL.of hRA⟩, _, rfl, Rl, us, .ref tb, rfl, rfl, hRA, Nat.lt_of_le_of_lt (by omega : us.length ≤ 200000) (by decide), ?_⟩
                  have kB := TupK.lst (o := .lst (us ++ [.ref tb])) hRA
                  refine ⟨_, M2, us ++ [.ref tb], rfl, gA.write hRlH, bkW NA Rl (.lst (us ++ [.ref tb])) (.inl rfl) kB bkA, ?_, vA.mono kB fun s _ v q => q, upd_same, ?_, ?_, kB.stgs dwoA, ?_, kB.stgs dbA⟩
                  · rw [upd_ne nDR]; exact dMA
                  · rw [tk, List.filter_append, List.filter_cons_of_pos (p := fun t : Stg => decide (missN (nxS z r rs) (os ++ [y]) t = 0)) hq, List.filter_nil, ← List.append_assoc, List.map_append]
                    exact dpAll_append (kB.stgs dusA) (.cons (kB.stg dxA) .nil)
                  · rw [upd_ne nRO.symm]; exact hOA
                  · rw [upd_ne (nBR y yin)]; exact hbA
                · refine ⟨_, M2, us, rfl, gA, bkA, dMA, vA, hRA, ?_, hOA, dwoA, hbA, dbA⟩
                  rw [tk, List.filter_append, List.filter_cons_of_neg (p := fun t : Stg => decide (missN (nxS z r rs) (os ++ [y]) t = 0)) hq, List.filter_nil, List.append_nil]
                  exact dusA
              · show v = V.int (mm u - if u ∈ (backL (nxS z r rs) ss y).take (j + 1) then 1 else 0)
                have q : v = V.int (mm u - if u ∈ (backL (nxS z r rs) ss y).take j then 1 else 0) := q
                have e : (u ∈ (backL (nxS z r rs) ss y).take (j + 1)) ↔ u ∈ (backL (nxS z r rs) ss y).take j := by
                  rw [tk, List.mem_append, List.mem_singleton]
                  exact ⟨fun h => h.elim id fun h => absurd h ne, .inl⟩
                rw [q]
                simp only [e]
              · show V.int ((mm t - if t ∈ (backL (nxS z r rs) ss y).take j then 1 else 0) - 1) = V.int (mm t - if t ∈ (backL (nxS z r rs) ss y).take (j + 1) then 1 else 0)
                rw [if_neg tn, if_pos (by rw [tk]; exact List.mem_append_right _ (List.mem_singleton.mpr rfl)), Int.sub_zero]
            · rintro σ N ⟨y7', M', us, rfl, gN, bkN, dMN, vMN, hRN, dusN, hON, dwoN, hbN, dbN⟩
              rw [lbs, List.take_length] at vMN dusN
              refine ⟨_, Nat.sub_lt_sub_left (by omega) (Nat.lt_succ_self _), _, _, _, _, _, os ++ [y], M', _, rfl, gN, bkN, dMN, vMN, hRN, dusN, hON, dwoN, on1, on2, fun s hs => ?_, on3, topo_snoc topo (miss_zero.mp yzero), ?_⟩
              · have e := miss_snoc (os := os) (ndx s hs) ynos
                have m1 := memB s
                rw [hmm s hs, e]
                by_cases c : y ∈ nxS z r rs s
                · rw [if_pos c, if_pos (m1.mpr ⟨hs, c⟩)]
                  omega
                · rw [if_neg c, if_neg fun h => c (m1.mp h).2]
                  omega
              · rw [List.length_append, List.length_singleton]
          · have e0 : ys = [] := by
              have : ¬ (0 : Int) < (ws.length : Int) := fun z => hq (decide_eq_true z)
              exact List.length_eq_zero_iff.mp (by omega)
            rw [e0, List.append_nil] at nd sub hzero
            exact ⟨_, rfl, k Ol wo os J g hO dwo nd sub topo fun s hs h => (hzero s hs).mp (miss_zero.mpr h)⟩
end

/-! ### the greatest sum of costs, from each standing that is surely served -/
def ValV (nx : Stg → List Stg) (co : Stg → Int) (s : Stg) (v : V) : Prop := ∃ n : Int, v = .int n ∧ Val nx co s n
theorem Leads.other {K : PySem.W.Frag} {w : World} {z r g : Int} {rs : List Row} {H J : Hp} {D : Addr} {L : Memo} {ss : List Stg} (h : Leads K w z r g rs H D L ss) (k : TupK H J) (e : J D = H D) : Leads K w z r g rs J D L ss :=
  ⟨by rw [e]; exact h.d, h.v.mono k fun s _ v q => q.keep k, h.n, h.m⟩
theorem paired_in2 {α β : Type} {F : α → β → Prop} : ∀ {as : List α} {bs : List β} {b : β}, Paired F as bs → b ∈ bs → ∃ a, a ∈ as ∧ F a b
  | _, _, _, .nil, h => absurd h List.not_mem_nil
  | _, _, b, .cons (a := a) r t, h => by
    rcases List.mem_cons.mp h with rfl | h
    · exact ⟨a, List.mem_cons_self, r⟩
    · obtain ⟨x, h1, h2⟩ := paired_in2 t h
      exact ⟨x, List.mem_cons_of_mem _ h1, h2⟩
def sp_costs (K : PySem.W.Frag) (w : World) : Sp := fun vs H Q _ => ∃ (D C : Addr) (z r g : Int) (rs : List Row) (L LC : Memo) (ss : List Stg) (co : Stg → Int), vs = [.ref D, .ref C] ∧ Both z r g rs ∧ Leads K w z r g rs H D L ss ∧ (∀ s ∈ ss, (nxS z r rs s).Nodup) ∧ H C = some (DictKO w C LC) ∧ DicS K (IntV co) H LC ss ∧ (∀ s, 0 ≤ co s) ∧
  ∀ (X : Addr) (M : Memo) (os : List Stg) (J : Hp), Grow H J → J X = some (DictKO w X M) → DicS K (ValV (nxS z r rs) co) J M os → os.Nodup → (∀ s, s ∈ os ↔ s ∈ ss ∧ Srv (nxS z r rs) s) → Q (.ref X) J
section
variable {P : Program} {w : World} {K : PySem.W.Frag} {mg : Str → Option Value} {base : Heap}
theorem ok_costs (T : Txt K mg) : FnOk P w K mg base CX0 3 T.a_greatest_costs T.d_greatest_costs ["leads", "costs"] (sp_costs K w) := by
  have G_served_order : FnOk P w K mg base CX0 2 T.a_served_order T.d_served_order ["leads"] (sp_order K w) := ok_order T
  refine T.F_greatest_costs.ok sc_greatest_costs (fun vs H Q E h => ?_) (fun cdv A outer s H vs Q E hr h => ?_)
  · obtain ⟨D, C, z, r, g, rs, L, LC, ss, co, rfl, _⟩ := h
    rfl
  · obtain ⟨D, C, z, r, g, rs, L, LC, ss, co, rfl, bo, ld, ndx, hC, vC, co0, k⟩ := h
    refine ⟨_, (pss_cons (ps_set (i := 2) sc_greatest_costs.nd rfl (Or.inr rfl) pe_nnew)
      (pss_cons (ps_for PassesOwn.never rfl (pi_list (pe_call G_served_order (hr.mono (by omega)) (by rfl) T.g_served_order T.F_served_order.kp T.b_served_order .nil pass0 (pa_cons (pv 0) pa_nil))) (pg_name (i := 3) sc_greatest_costs.nd rfl (Or.inl rfl))
        (pss_one (ps_nput (hu64 hr) (pv 2) (pv 3) (pe_op op_add (pe_nget (hu64 hr) (pv 1) (pv 3) (fun _ _ => rfl)) (pe_callBK (id := "max") (cr_maxDf rfl (hu64 hr)) (by rfl) T.m_max (by decide +kernel) (pa_cons (pe_lc (own := [("one", 4)]) (g := gName 4) (by rfl) sc_greatest_costs.nd (pi_tup (pe_nget (hu64 hr) (pv 0) (pv 3) (fun _ _ => rfl))) (blkOk_by (own := [("one", 4)]) (N := ["leads", "costs", "left", "standing", "one"]) (sc := defScope s_greatest_costs) (by decide +kernel)) (fun _ _ _ _ _ => (pg_name (i := 4) sc_greatest_costs.nd rfl (Or.inl rfl))) (fun _ _ _ _ _ => pts_nil) (fun _ _ _ _ _ => (pe_ngetK K w rfl rfl (hu64 hr) (pv 2) (pv 4) (fun _ _ => rfl)))) pa_nil) (pk_cons pe_int pk_nil))) (by rfl))))
      (pss_one (ps_ret (pv 2))))), ?_⟩
    have few : ss.length ≤ 60000 := few_stgs bo ld.n fun s hs => RchS.ok bo ((ld.m s).mp hs)
    intro X hX
    have G0 : Grow H (upd H X (DictKO w X [])) := Grow.new hX
    have X0 : (upd H X (DictKO w X [])) X = some (DictKO w X []) := upd_same
    show gName 2 (V.ref X) _ (upd H X (DictKO w X [])) _
    generalize upd H X (DictKO w X []) = J0 at G0 X0 ⊢
    refine ⟨_, rfl, D, z, r, g, rs, L, ss, rfl, bo, ld.grow G0, ndx, fun O wo os J1 G1 hO dwo ndo subo topo fullo => ?_⟩
    have G01 := G0.trans G1
    have X1 := G1.at X0 (fun q => dictKO_ne fun _ z => by cases z)
    have ld1 := ld.grow G01
    have hC1 := G01.at hC (fun q => dictKO_ne fun _ z => by cases z)
    have vC1 := vC.mono (F' := IntV co) (TupK.grow G01) fun s _ v q => q
    have lwo := dpAll_len dwo
    rw [List.length_map] at lwo
    have loS := List.Nodup.length_le_of_subset ndo (l₂ := ss) subo
    have nXO : X ≠ O := ne_of X1 hO (dictKO_ne fun _ z => by cases z)
    have nXC : C ≠ X := fun e => by rw [e, hX] at hC; cases hC
    have nXD : D ≠ X := fun e => by have := ld.d; rw [e, hX] at this; cases this
    refine ⟨O, rfl, ⟨_, SqL.of hO⟩, ?_⟩
    refine for_list (K := K) (a := O) (xs := wo) (fun i σ J => ∃ (y3 : Option V) (M : Memo), σ = [some (.ref D), some (.ref C), some (.ref X), y3, none] ∧ Grow H J ∧ J X = some (DictKO w X M) ∧ DicS K (ValV (nxS z r rs) co) J M (os.take i) ∧ J O = some (.lst wo) ∧ DpAll K J wo (os.map stgD) ∧ Leads K w z r g rs J D L ss ∧ J C = some (DictKO w C LC) ∧ DicS K (IntV co) J LC ss) ⟨_, [], rfl, G01, X1, ?_, hO, dwo, ld1, hC1, vC1⟩ (fun i σ J _ ⟨_, _, _, _, _, _, h, _⟩ => SqL.of h) ?_ ?_
    · rw [List.take_zero]
      exact .nil
    · rintro i x σ J hx ⟨y3, M, rfl, GJ, XJ, vJ, hOJ, dwoJ, ldJ, hCJ, vCJ⟩
      obtain ⟨d, hd, dx⟩ := dpAll_get dwoJ hx
      rw [List.getElem?_map] at hd
      obtain ⟨t, ht, rfl⟩ := Option.map_eq_some_iff.mp hd
      obtain ⟨tb, rfl⟩ := dp_ref dx
      have tin := subo t (List.mem_of_getElem? ht)
      have tk : os.take (i + 1) = os.take i ++ [t] := by rw [List.take_add_one, ht]; rfl
      have tn : t ∉ os.take i := fun h => by
        have := ndo
        rw [← List.take_append_drop (i + 1) os, tk, List.append_assoc, List.nodup_append] at this
        exact this.2.2 t h t (List.mem_cons_self) rfl
      have before : ∀ u ∈ nxS z r rs t, u ∈ os.take i := by
        have lt := (List.getElem?_eq_some_iff.mp ht).1
        have sp : os = os.take i ++ t :: os.drop (i + 1) := by
          have hx : os[i] = t := (List.getElem?_eq_some_iff.mp ht).2
          rw [← hx, List.getElem_cons_drop, List.take_append_drop]
        exact topo _ _ _ sp
      obtain ⟨eb, ev, hin, rfl⟩ := vCJ.get tin
      obtain ⟨eb2, ev2, hin2, tl, us, rfl, htl, dus⟩ := ldJ.v.get tin
      have lus := dpAll_len dus
      rw [List.length_map] at lus
      have l20 := nxS_len (z := z) (r := r) (g := g) (rs := rs) (s := t) bo.h.1 bo.h.2.1
      refine ⟨_, rfl, _, rfl, C, LC, tb, stgD t, eb, _, rfl, rfl, hCJ, vCJ.keys, IsKeyAt.stg dx, hin, ?_⟩
      refine ⟨_, rfl, _, rfl, D, L, tb, stgD t, eb2, _, rfl, rfl, ldJ.d, ldJ.v.keys, IsKeyAt.stg dx, hin2, tl, rfl, ⟨_, htl⟩, fun N hN => ?_⟩
      refine lc_tup (K := K) (a := tl) (xs := us) (fun j G => ∃ ns : List Int, Grow J G ∧ G N = some (.lst (ns.map V.int)) ∧ Paired (fun (u : Stg) (n : Int) => Val (nxS z r rs) co u n) ((nxS z r rs t).take j) ns) ⟨[], Grow.new hN, upd_same, ?_⟩ (fun j G _ ⟨_, g, _⟩ => g.tup htl) ?_ ?_
      · rw [List.take_zero]
        exact .nil
      · rintro j x G hx2 ⟨ns, g, hNG, pn⟩
        obtain ⟨d, hd2, dx2⟩ := dpAll_get (growDpAll g _ _ dus) hx2
        rw [List.getElem?_map] at hd2
        obtain ⟨u, hu, rfl⟩ := Option.map_eq_some_iff.mp hd2
        obtain ⟨ub, rfl⟩ := dp_ref dx2
        have tku : (nxS z r rs t).take (j + 1) = (nxS z r rs t).take j ++ [u] := by rw [List.take_add_one, hu]; rfl
        have vG := vJ.mono (F' := ValV (nxS z r rs) co) (TupK.grow g) fun s _ v q => q
        obtain ⟨eb3, ev3, hin3, n, rfl, hval⟩ := vG.get (before u (List.mem_of_getElem? hu))
        have lns := paired_length pn
        rw [List.length_take] at lns
        refine ⟨rfl, ?_⟩
        unfold tYes
        refine iteT ?_
        refine ⟨_, rfl, _, rfl, X, M, ub, stgD u, eb3, _, rfl, rfl, g.at XJ (fun q => dictKO_ne fun _ z => by cases z), vG.keys, IsKeyAt.stg dx2, hin3, ?_⟩
        refine ⟨_, hNG, Nat.lt_of_le_of_lt (by rw [List.length_map]; omega : (ns.map V.int).length ≤ 20) (by decide), ns ++ [n], g.write hN, by rw [upd_same, List.map_append]; rfl, ?_⟩
        rw [tku]
        exact paired_snoc pn hval
      · rintro G ⟨ns, g, hNG, pn⟩
        rw [lus, List.take_length] at pn
        refine ⟨N, ns, 0, rfl, rfl, SqL.of hNG, fun m m0 m1 => ?_⟩
        have em : m = maxL ns := by
          refine maxL_is (fun x hx => ?_) m0 m1
          obtain ⟨u, _, hv⟩ := paired_in2 pn hx
          exact hv.pos co0
        subst em
        have hval := Val.steps pn
        have vG := vJ.mono (F' := ValV (nxS z r rs) co) (TupK.grow g) fun s _ v q => q
        have XG := g.at XJ (fun q => dictKO_ne fun _ z => by cases z)
        have lM := vG.len
        rw [List.length_take] at lM
        refine ⟨_, _, rfl, rfl, _, rfl, _, rfl, X, M, tb, stgD t, rfl, rfl, XG, vG.keys, IsKeyAt.stg (growDp g _ _ dx), Nat.lt_of_le_of_lt (by omega : M.length ≤ 60000) (by decide), fun M2 hM2 => ?_⟩
        have kT := TupK.dict (o := DictKO w X M2) XG
        have vN := (vG.new tn (growDp g _ _ dx) ⟨_, rfl, hval⟩ hM2).mono (F' := ValV (nxS z r rs) co) kT fun s _ v q => q
        have ldG := ldJ.grow g
        refine ⟨_, M2, rfl, (GJ.trans g).write hX, upd_same, by rw [tk]; exact vN, by rw [upd_ne nXO.symm]; exact g.at hOJ, kT.stgs (growDpAll g _ _ dwoJ), ldG.other kT (upd_ne nXD), by rw [upd_ne nXC]; exact g.at hCJ (fun q => dictKO_ne fun _ z => by cases z), (vCJ.mono (F' := IntV co) (TupK.grow g) fun s _ v q => q).mono kT fun s _ v q => q⟩
    · rintro σ J ⟨y3, M, rfl, GJ, XJ, vJ, hOJ, dwoJ, ldJ, hCJ, vCJ⟩
      rw [lwo, List.take_length] at vJ
      exact ⟨_, rfl, k X M os J GJ XJ vJ ndo fun s => ⟨fun h => ⟨subo s h, topo_srv topo s h⟩, fun ⟨h1, h2⟩ => srv_order ld.closed fullo s h1 h2⟩⟩
end

/-! ### how long until served -/
def sp_mleft (K : PySem.W.Frag) (w : World) : Sp := fun vs H Q _ => ∃ (D : Addr) (z r g : Int) (rs : List Row) (L : Memo) (ss : List Stg), vs = [.ref D] ∧ Both z r g rs ∧ Leads K w z r g rs H D L ss ∧ (∀ s ∈ ss, (nxS z r rs s).Nodup) ∧
  ∀ (X : Addr) (M : Memo) (os : List Stg) (J : Hp), Grow H J → J X = some (DictKO w X M) → DicS K (ValV (nxS z r rs) fun _ => 1) J M os → os.Nodup → (∀ s, s ∈ os ↔ s ∈ ss ∧ Srv (nxS z r rs) s) → Q (.ref X) J
section
variable {P : Program} {w : World} {K : PySem.W.Frag} {mg : Str → Option Value} {base : Heap}
theorem ok_mleft (T : Txt K mg) : FnOk P w K mg base CX0 4 T.a_moments_left T.d_moments_left ["leads"] (sp_mleft K w) := by
  have G_greatest_costs : FnOk P w K mg base CX0 3 T.a_greatest_costs T.d_greatest_costs ["leads", "costs"] (sp_costs K w) := ok_costs T
  refine T.F_moments_left.ok sc_moments_left (fun vs H Q E h => ?_) (fun cdv A outer s H vs Q E hr h => ?_)
  · obtain ⟨D, z, r, g, rs, L, ss, rfl, _⟩ := h
    rfl
  · obtain ⟨D, z, r, gg, rs, L, ss, rfl, bo, ld, ndx, k⟩ := h
    refine ⟨_, (pss_one (ps_ret (pe_call G_greatest_costs (hr.mono (by omega)) (by rfl) T.g_greatest_costs T.F_greatest_costs.kp T.b_greatest_costs .nil pass0 (pa_cons (pv 0) (pa_cons (pe_lock (pe_dcn (own := [("standing", 1)]) (g := gName 1) (hu64 hr) (by rfl) sc_moments_left.nd (pi_keysN (pv 0)) (blkOk_by (own := [("standing", 1)]) (N := ["leads", "standing"]) (sc := defScope s_moments_left) (by decide +kernel)) (fun _ _ _ _ _ => (pg_name (i := 1) sc_moments_left.nd rfl (Or.inl rfl))) (fun _ _ _ _ _ => pts_nil) (fun _ _ _ _ _ => (pv 1)) (fun _ _ _ _ _ => pe_int))) pa_nil))))), ?_⟩
    have lL := ld.v.len
    have few : ss.length ≤ 60000 := few_stgs bo ld.n fun s hs => RchS.ok bo ((ld.m s).mp hs)
    refine ⟨_, rfl, D, _, ld.d, True.intro, fun od => ?_⟩
    have hf : (upd H D (.frz od (DictKO w D L))) D = some (.frz od (DictKO w D L)) := upd_same
    have kf := lock_keys od ld.d
    have vf := ld.v.mono kf fun s _ v q => LeadV.keep kf q
    have unl := fun J (g : Grow (upd H D (.frz od (DictKO w D L))) J) => unlock_grow ld.d (fun q => dictKO_ne fun _ z => by cases z) g
    generalize upd H D (.frz od (DictKO w D L)) = Hf at hf kf vf unl ⊢
    refine ⟨_, rfl, D, od, L, rfl, hf, fun C hC => ?_⟩
    refine dcn_it (walk_keysN (w := w) (d := D) (o := od) (L := L)) (fun i G => ∃ M : Memo, Grow Hf G ∧ G C = some (DictKO w C M) ∧ DicS K (IntV fun _ => 1) G M (ss.take i)) ⟨[], Grow.new hC, upd_same, .nil⟩ (fun i G _ ⟨_, g, _⟩ => g.at hf) ?_ ?_
    · rintro i x G G' hi ⟨M, g, dM, vM⟩ ⟨rfl, hx⟩
      rw [List.getElem?_map] at hx
      obtain ⟨q, hq, rfl⟩ := Option.map_eq_some_iff.mp hx
      obtain ⟨s, hs, e1, e2, e3⟩ := vf.nth hq
      have tk : ss.take (i + 1) = ss.take i ++ [s] := by rw [List.take_add_one, hs]; rfl
      have snin : s ∉ ss.take i := fun h => by
        have := ld.n
        rw [← List.take_append_drop (i + 1) ss, tk, List.append_assoc, List.nodup_append] at this
        exact this.2.2 s h s (List.mem_cons_self) rfl
      have dk := growDp g _ _ e2
      have lM := vM.len
      rw [List.length_take] at lM
      refine ⟨rfl, ?_⟩
      unfold tYes
      refine iteT ⟨_, rfl, M, q.2.1, stgD s, rfl, dM, vM.keys, IsKeyAt.stg dk, Nat.lt_of_le_of_lt (by omega : M.length ≤ 100000) (by decide), fun M2 hM2 => ?_⟩
      have kT : TupK G' (upd G' C (DictKO w C M2)) := TupK.dict dM
      refine ⟨M2, g.write hC, upd_same, ?_⟩
      rw [tk]
      exact (vM.mono (F' := IntV fun _ => 1) kT fun s _ v q => q).new snin (kT.stg dk) rfl hM2
    · rintro G ⟨M, g, dM, vM⟩
      rw [lL, List.take_length] at vM
      have gD := g.at hf
      refine ⟨gD, ?_⟩
      have gJ := unl G g
      have kU : TupK G (upd G D (DictKO w D L)) := TupK.lock gD
      have dMU : (upd G D (DictKO w D L)) C = some (DictKO w C M) := by rw [upd_ne (ne_of dM gD (dictKO_ne fun _ z => by cases z))]; exact dM
      have vMU := vM.mono (F' := IntV fun _ => 1) kU fun s _ v q => q
      show (_ : Hp → Prop) (upd G D (DictKO w D L))
      generalize upd G D (DictKO w D L) = G1 at gJ dMU vMU ⊢
      refine ⟨D, C, z, r, gg, rs, L, M, ss, _, rfl, bo, ld.grow gJ, ndx, dMU, vMU, fun _ => by decide, fun X M os J GJ XJ vJ ndo mo => k X M os J (gJ.trans GJ) XJ vJ ndo mo⟩
end

/-! ### the greatest at the first standings -/
def GafV (z r g : Int) (nx : Stg → List Stg) (co : Stg → Int) (v : V) : Prop := (v = .non ∧ ∃ s ∈ firstsS z r g, ¬ Srv nx s) ∨ ∃ m : Int, v = .int m ∧ (∀ s ∈ firstsS z r g, ∃ n, Val nx co s n ∧ n ≤ m) ∧ ∃ s ∈ firstsS z r g, Val nx co s m
theorem paired_in1 {α β : Type} {F : α → β → Prop} : ∀ {as : List α} {bs : List β} {a : α}, Paired F as bs → a ∈ as → ∃ b, b ∈ bs ∧ F a b
  | _, _, _, .nil, h => absurd h List.not_mem_nil
  | _, _, a, .cons (b := b) r t, h => by
    rcases List.mem_cons.mp h with rfl | h
    · exact ⟨b, List.mem_cons_self, r⟩
    · obtain ⟨x, h1, h2⟩ := paired_in1 t h
      exact ⟨x, List.mem_cons_of_mem _ h1, h2⟩
theorem firstsS_ne {z r g : Int} (hz : 2 ≤ z) : firstsS z r g ≠ [] := by
  have h : List.replicate (g + 1).toNat (0 : Int) ∈ begR z r g := by
    refine List.mem_filter.mpr ⟨allR_in18 List.length_replicate fun y hy => ?_, ?_⟩
    · rw [(List.mem_replicate.mp hy).2]
      omega
    · have e : changesI (List.replicate (g + 1).toNat (0 : Int)) = [] := by
        unfold changesI
        rw [List.map_eq_nil_iff, List.filter_eq_nil_iff]
        intro i hi
        have hi := List.mem_range.mp hi
        rw [List.length_replicate] at hi
        unfold changesP
        simp only [List.getElem?_replicate]
        simp (config := { decide := true }) [show i + 1 < (g + 1).toNat by omega, show i < (g + 1).toNat by omega]
      show keptB _ r = true
      unfold keptB
      rw [e]
      rfl
  intro e
  have := (List.mergeSort_perm ((begR z r g).map fun ns => ((ns.reverse, holdI r ns, (0, 0, -1)) : Stg)) leS).mem_iff.mpr (List.mem_map_of_mem h)
  unfold firstsS at e
  rw [e] at this
  exact List.not_mem_nil this
def sp_gaf (K : PySem.W.Frag) (w : World) (tb tb2 : Addr) : Sp := fun vs H Q _ => ∃ (h : V) (X : Addr) (z r g : Int) (rs : List Row) (M : Memo) (ss os : List Stg) (co : Stg → Int), vs = [h, .ref X] ∧ Dp K H h (houseT z r g) ∧ Both z r g rs ∧ GxR.TabG H tb ∧ GxR.TabG H tb2 ∧ H X = some (DictKO w X M) ∧ DicS K (ValV (nxS z r rs) co) H M os ∧ os.Nodup ∧ os.length ≤ 60000 ∧ (∀ s ∈ firstsS z r g, Srv (nxS z r rs) s → s ∈ os) ∧
  ∀ v J, Grow H J → GafV z r g (nxS z r rs) co v → Q v J
section
variable {P : Program} {w : World} {K : PySem.W.Frag} {mg : Str → Option Value} {base : Heap}
theorem ok_gaf (T : Txt K mg) (TB : ∀ p ∈ T.tabs, GxR.TabB base mg p.1 p.2) : FnOk P w K mg base CX0 6 T.a_greatest_at_first T.d_greatest_at_first ["house", "left"] (sp_gaf K w T.p_changes_of T.p_heads_back) := by
  have TB1 : GxR.TabB base mg T.c_changes_of T.p_changes_of := TB (T.c_changes_of, T.p_changes_of) (by simp [Txt.tabs])
  have TB2 : GxR.TabB base mg T.c_heads_back T.p_heads_back := TB (T.c_heads_back, T.p_heads_back) (by simp [Txt.tabs])
  have G_firsts : FnOk P w K mg base CX0 5 T.a_firsts T.d_firsts ["house"] (sp_firsts K T.p_changes_of T.p_heads_back) := ok_firsts T TB1 TB2
  refine T.F_greatest_at_first.ok sc_greatest_at_first (fun vs H Q E h => ?_) (fun cdv A outer s H vs Q E hr h => ?_)
  · obtain ⟨h, X, z, r, g, rs, M, ss, os, co, rfl, _⟩ := h
    rfl
  · obtain ⟨h, X, z, r, g, rs, M, ss, os, co, rfl, hh, bo, hT1, hT2, hX, vM, ndo, few, hin, k⟩ := h
    refine ⟨_, (pss_cons (ps_set (i := 2) sc_greatest_at_first.nd rfl (Or.inl rfl) (pe_call G_firsts (hr.mono (by omega)) (by rfl) T.g_firsts T.F_firsts.kp T.b_firsts .nil pass0 (pa_cons (pv 0) pa_nil)))
      (pss_cons (ps_if (pt_not (pt_val (pe_callB (id := "all") (cr_all rfl) (by rfl) T.m_all (by decide +kernel) (pa_cons (pe_lc (own := [("standing", 3)]) (g := gName 3) (by rfl) sc_greatest_at_first.nd (pi_tup (pv 2)) (blkOk_by (own := [("standing", 3)]) (N := ["house", "left", "begun", "standing"]) (sc := defScope s_greatest_at_first) (by decide +kernel)) (fun _ _ _ _ _ => (pg_name (i := 3) sc_greatest_at_first.nd rfl (Or.inl rfl))) (fun _ _ _ _ _ => pts_nil) (fun _ _ _ _ _ => (pe_cmp (pc_ninK K w rfl rfl (hu64 hr) (pv 3) (pv 1))))) pa_nil))))
        (pss_one (ps_ret pe_non))
        pss_nil)
      (pss_one (ps_ret (pe_callB (id := "max") (cr_max rfl) (by rfl) T.m_max (by decide +kernel) (pa_cons (pe_lc (own := [("standing", 3)]) (g := gName 3) (by rfl) sc_greatest_at_first.nd (pi_tup (pv 2)) (blkOk_by (own := [("standing", 3)]) (N := ["house", "left", "begun", "standing"]) (sc := defScope s_greatest_at_first) (by decide +kernel)) (fun _ _ _ _ _ => (pg_name (i := 3) sc_greatest_at_first.nd rfl (Or.inl rfl))) (fun _ _ _ _ _ => pts_nil) (fun _ _ _ _ _ => (pe_ngetK K w rfl rfl (hu64 hr) (pv 1) (pv 3) (fun _ _ => rfl)))) pa_nil)))))), ?_⟩
    obtain ⟨z2, z4, r1, r6, g0, g3, _⟩ := bo.h
    obtain ⟨th, rfl, sth⟩ := dp_three hh
    refine ⟨_, rfl, th, z, r, g, rfl, sth, bo.h, hT1, hT2, fun tf us J1 G1 htf df => ?_⟩
    rw [firsts_stg g0] at df
    have lus := dpAll_len df
    rw [List.length_map] at lus
    have f81 := firstsS_len bo.h
    have X1 := G1.at hX (fun q => dictKO_ne fun _ z => by cases z)
    have v1 := vM.mono (F' := ValV (nxS z r rs) co) (TupK.grow G1) fun s _ v q => q
    have lM := vM.len
    refine ⟨_, rfl, tf, rfl, ⟨_, SqT.of htf⟩, fun N hN => ?_⟩
    refine lc_tup (K := K) (a := tf) (xs := us) (fun i G => Grow J1 G ∧ G N = some (.lst (((firstsS z r g).take i).map fun s => V.bl (decide (s ∈ os))))) ⟨Grow.new hN, by rw [upd_same, List.take_zero]; rfl⟩ (fun i G _ ⟨g, _⟩ => g.tup (SqT.of htf)) ?_ ?_
    · rintro i x G hx ⟨g1, hNG⟩
      obtain ⟨d, hd, dx⟩ := dpAll_get (growDpAll g1 _ _ df) hx
      rw [List.getElem?_map] at hd
      obtain ⟨u, hu, rfl⟩ := Option.map_eq_some_iff.mp hd
      obtain ⟨ub, rfl⟩ := dp_ref dx
      have vG := v1.mono (F' := ValV (nxS z r rs) co) (TupK.grow g1) fun s _ v q => q
      have tk : (firstsS z r g).take (i + 1) = (firstsS z r g).take i ++ [u] := by rw [List.take_add_one, hu]; rfl
      refine ⟨rfl, ?_⟩
      unfold tYes
      refine iteT ?_
      refine ⟨_, rfl, _, rfl, X, M, ub, stgD u, rfl, rfl, g1.at X1 (fun q => dictKO_ne fun _ z => by cases z), vG.keys, IsKeyAt.stg dx, ?_⟩
      intro c hc
      have ec : c = decide (u ∈ os) := by
        by_cases e : u ∈ os
        · rw [decide_eq_true e, hc, vG.mem]
          exact e
        · rw [decide_eq_false e]
          exact Bool.eq_false_iff.mpr fun z => e (vG.mem.mp (hc.mp z))
      subst ec
      refine ⟨_, hNG, Nat.lt_of_le_of_lt (by rw [List.length_map, List.length_take]; omega : _ ≤ 81) (by decide), g1.write hN, ?_⟩
      rw [upd_same, tk, List.map_append]
      rfl
    · rintro G ⟨g1, hNG⟩
      rw [lus, List.take_length] at hNG
      have hNG' : G N = some (.lst (((firstsS z r g).map fun s => decide (s ∈ os)).map V.bl)) := by rw [hNG, List.map_map]; rfl
      refine ⟨N, _, rfl, SqL.of hNG', _, rfl, ?_⟩
      have srvo : ∀ s ∈ os, Srv (nxS z r rs) s := fun s hs => let ⟨_, _, _, _, _, hv⟩ := vM.get hs; hv.srv
      refine ite2 (fun e => ?_) (fun e => ?_)
      · refine k _ _ (G1.trans g1) (.inl ⟨rfl, ?_⟩)
        rw [List.all_map] at e
        have e : (firstsS z r g).all (id ∘ fun s => decide (s ∈ os)) = false := by
          cases q : (firstsS z r g).all (id ∘ fun s => decide (s ∈ os)) with
          | false => rfl
          | true => rw [q] at e; cases e
        obtain ⟨s, hs, hn⟩ := List.all_eq_false.mp e
        exact ⟨s, hs, fun h => hn (decide_eq_true (hin s hs h))⟩
      · have e : ∀ s ∈ firstsS z r g, s ∈ os := fun s hs => by
          rw [List.all_map] at e
          have e : (firstsS z r g).all (id ∘ fun s => decide (s ∈ os)) = true := by
            cases q : (firstsS z r g).all (id ∘ fun s => decide (s ∈ os)) with
            | true => rfl
            | false => rw [q] at e; exact absurd rfl e
          exact of_decide_eq_true (List.all_eq_true.mp e s hs)
        have g2 := G1.trans g1
        have X2 := g1.at X1 (fun q => dictKO_ne fun _ z => by cases z)
        have v2 := v1.mono (F' := ValV (nxS z r rs) co) (TupK.grow g1) fun s _ v q => q
        have tf2 := g1.at htf
        have df2 := growDpAll g1 _ _ df
        refine ⟨_, rfl, tf, rfl, ⟨_, SqT.of tf2⟩, fun N2 hN2 => ?_⟩
        refine lc_tup (K := K) (a := tf) (xs := us) (fun i N => ∃ ns : List Int, Grow G N ∧ N N2 = some (.lst (ns.map V.int)) ∧ Paired (fun (u : Stg) (n : Int) => Val (nxS z r rs) co u n) ((firstsS z r g).take i) ns) ⟨[], Grow.new hN2, upd_same, ?_⟩ (fun i N _ ⟨_, q, _⟩ => q.tup (SqT.of tf2)) ?_ ?_
        · rw [List.take_zero]
          exact .nil
        · rintro i x N hx ⟨ns, q, hNN, pn⟩
          obtain ⟨d, hd, dx⟩ := dpAll_get (growDpAll q _ _ df2) hx
          rw [List.getElem?_map] at hd
          obtain ⟨u, hu, rfl⟩ := Option.map_eq_some_iff.mp hd
          obtain ⟨ub, rfl⟩ := dp_ref dx
          have tk : (firstsS z r g).take (i + 1) = (firstsS z r g).take i ++ [u] := by rw [List.take_add_one, hu]; rfl
          have vN := v2.mono (F' := ValV (nxS z r rs) co) (TupK.grow q) fun s _ v q => q
          obtain ⟨eb, ev, hin3, n, rfl, hval⟩ := vN.get (e u (List.mem_of_getElem? hu))
          have lns := paired_length pn
          rw [List.length_take] at lns
          refine ⟨rfl, ?_⟩
          unfold tYes
          refine iteT ?_
          refine ⟨_, rfl, _, rfl, X, M, ub, stgD u, eb, _, rfl, rfl, q.at X2 (fun q => dictKO_ne fun _ z => by cases z), vN.keys, IsKeyAt.stg dx, hin3, ?_⟩
          refine ⟨_, hNN, Nat.lt_of_le_of_lt (by rw [List.length_map]; omega : (ns.map V.int).length ≤ 81) (by decide), ns ++ [n], q.write hN2, by rw [upd_same, List.map_append]; rfl, ?_⟩
          rw [tk]
          exact paired_snoc pn hval
        · rintro N ⟨ns, q, hNN, pn⟩
          rw [lus, List.take_length] at pn
          have ne := firstsS_ne (z := z) (r := r) (g := g) z2
          have lns := paired_length pn
          refine ⟨N2, ns, rfl, SqL.of hNN, by rw [← lns]; exact List.length_pos_iff.mpr ne, fun m hm hx => ?_⟩
          refine k _ _ (g2.trans q) (.inr ⟨m, rfl, fun s hs => ?_, ?_⟩)
          · obtain ⟨n, hn, hv⟩ := paired_in1 pn hs
            exact ⟨n, hv, hx n hn⟩
          · obtain ⟨s, hs, hv⟩ := paired_in2 pn hm
            exact ⟨s, hs, hv⟩
end

/-! ### where a standing leads: nothing twice -/
theorem answ_once {z : Int} {row : Row} {named asked : Int} {hs : List Int} {as : List (Int × Int × Int)} (h : AnswOf z row named asked hs as) : as.Nodup := by
  unfold AnswOf at h
  split at h
  · rw [h]
    simp
  · rename_i sv ea
    obtain ⟨out, so, _, rfl⟩ := h
    have two : ∀ n, (nextA z row named asked n).2.1 = n := fun n => by
      unfold nextA
      rw [ea]
      simp only
      split <;> rfl
    refine List.Pairwise.map _ (fun a b (lt : a < b) e => ?_) so.1
    have := congrArg (fun q : Int × Int × Int => q.2.1) e
    simp only [two] at this
    omega
theorem turnsK_once (z r u : Int) (hs : List Int) : (turnsK z r hs u).Nodup := by
  unfold turnsK
  split
  · simp
  · refine List.Pairwise.map _ (fun a b ne e => ne ?_) List.nodup_range
    have := congrArg (fun q : List Int × Int => q.1.headD 0) e
    simp only [List.headD_cons] at this
    omega
theorem prodS_once {ts : List (List Int × Int)} {as : List (Int × Int × Int)} (h1 : ts.Nodup) (h2 : as.Nodup) : (prodS ts as).Nodup := by
  unfold prodS
  refine List.pairwise_flatMap.mpr ⟨fun t _ => ?_, h1.imp_of_mem fun {a b} ha hb ne x hx y hy e => ne ?_⟩
  · refine List.Pairwise.map _ (fun a b ne e => ne ?_) h2
    exact congrArg (fun q : Stg => q.2.2) e
  · obtain ⟨p, _, rfl⟩ := List.mem_map.mp hx
    obtain ⟨q, _, rfl⟩ := List.mem_map.mp hy
    have e1 := congrArg (fun q : Stg => q.1) e
    have e2 := congrArg (fun q : Stg => q.2.1) e
    exact Prod.ext e1 e2
theorem mem_prodS {ts : List (List Int × Int)} {as : List (Int × Int × Int)} {s : Stg} : s ∈ prodS ts as ↔ ∃ p ∈ ts, ∃ a ∈ as, s = (p.1, p.2, a) := by
  unfold prodS
  rw [List.mem_flatMap]
  constructor
  · rintro ⟨p, hp, h⟩
    obtain ⟨a, ha, rfl⟩ := List.mem_map.mp h
    exact ⟨p, hp, a, ha, rfl⟩
  · rintro ⟨p, hp, a, ha, rfl⟩
    exact ⟨p, hp, List.mem_map.mpr ⟨a, ha, rfl⟩⟩

/-! ### where a standing leads: nothing twice, as a list -/
theorem nxS_once (z r : Int) (rs : List Row) (s : Stg) : (nxS z r rs s).Nodup := by
  unfold nxS
  split
  · exact List.nodup_nil
  · rename_i row _
    refine ((List.mergeSort_perm _ leS).nodup_iff).mpr (prodS_once (turnsK_once _ _ _ _) ?_)
    unfold askersL
    split
    · simp
    · rename_i sv ea
      have two : ∀ n, (nextA z row s.2.2.2.1 s.2.2.2.2 n).2.1 = n := fun n => by
        unfold nextA
        rw [ea]
        simp only
        split <;> rfl
      have nd : (namesL z sv s.1).Nodup := by
        unfold namesL
        refine List.Pairwise.filter _ (List.Pairwise.map _ ?_ List.nodup_range)
        intro a b h e
        omega
      refine List.Pairwise.map _ (fun a b ne e => ne ?_) nd
      have := congrArg (fun q : Int × Int × Int => q.2.1) e
      simp only [two] at this
      exact this

/-! ### latest and most -/
theorem dp_stg18a {K : PySem.W.Frag} {H : Hp} {v : V} {s : Stg} (h : Dp K H v (stgD s)) : ∃ b c e : Addr, v = .ref b ∧ SqT K H b [.ref c, .int s.2.1, .ref e] ∧ Dp K H (.ref e) (askerD s.2.2) := by
  unfold stgD at h
  cases h with
  | tup h1 h2 =>
  cases h2 with
  | cons a h2 =>
  cases h2 with
  | cons b h2 =>
  cases h2 with
  | cons c h2 =>
  cases h2
  cases b
  cases a with
  | tup a1 a2 =>
  have c' := c
  unfold askerD at c'
  cases c' with
  | tup c1 c2 => exact ⟨_, _, _, rfl, h1, c⟩
def costS (z : Int) (rs : List Row) (s : Stg) : Int := match rs[s.2.2.1.toNat]? with
  | none => 0
  | some row => if askN z row.1 s.2.2.2.1 s.2.2.2.2 = none then 0 else 1
def sp_last18 (K : PySem.W.Frag) (co : Int → List Row → Stg → Int) (tb tb2 tb3 tb4 : Addr) : Sp := fun vs H Q _ => ∃ (h t : V) (z r g : Int) (rs : List Row), vs = [h, t] ∧ Dp K H h (houseT z r g) ∧ Dp K H t (tableD rs) ∧ Both z r g rs ∧ GxR.TabG H tb ∧ GxR.TabG H tb2 ∧ GxR.TabG H tb3 ∧ GxR.TabG H tb4 ∧
  ∀ v J, Grow H J → GafV z r g (nxS z r rs) (co z rs) v → Q v J
section
variable {P : Program} {w : World} {K : PySem.W.Frag} {mg : Str → Option Value} {base : Heap}
theorem ok_latest (T : Txt K mg) (TB : ∀ p ∈ T.tabs, GxR.TabB base mg p.1 p.2) : FnOk P w K mg base CX0 15 T.a_latest T.d_latest ["house", "table"] (sp_last18 K (fun _ _ _ => 1) T.p_changes_of T.p_heads_back T.p_turns T.p_answered) := by
  have G_leads_of : FnOk P w K mg base CX0 14 T.a_leads_of T.d_leads_of ["house", "table"] (sp_leads K w T.p_changes_of T.p_heads_back T.p_turns T.p_answered) := ok_leads T TB
  have G_moments_left : FnOk P w K mg base CX0 4 T.a_moments_left T.d_moments_left ["leads"] (sp_mleft K w) := ok_mleft T
  have G_greatest_at_first : FnOk P w K mg base CX0 6 T.a_greatest_at_first T.d_greatest_at_first ["house", "left"] (sp_gaf K w T.p_changes_of T.p_heads_back) := ok_gaf T TB
  refine T.F_latest.ok sc_latest (fun vs H Q E h => ?_) (fun cdv A outer s H vs Q E hr h => ?_)
  · obtain ⟨h, t, z, r, g, rs, rfl, _⟩ := h
    rfl
  · obtain ⟨h, t, z, r, g, rs, rfl, hh, ht, bo, hT1, hT2, hT3, hT4, k⟩ := h
    refine ⟨_, (pss_one (ps_ret (pe_call G_greatest_at_first (hr.mono (by omega)) (by rfl) T.g_greatest_at_first T.F_greatest_at_first.kp T.b_greatest_at_first .nil pass0 (pa_cons (pv 0) (pa_cons (pe_call G_moments_left (hr.mono (by omega)) (by rfl) T.g_moments_left T.F_moments_left.kp T.b_moments_left .nil pass0 (pa_cons (pe_call G_leads_of (hr.mono (by omega)) (by rfl) T.g_leads_of T.F_leads_of.kp T.b_leads_of .nil pass0 (pa_cons (pv 0) (pa_cons (pv 1) pa_nil))) pa_nil)) pa_nil))))), ?_⟩
    refine ⟨_, rfl, _, rfl, _, rfl, h, t, z, r, g, rs, rfl, hh, ht, bo, hT1, hT2, hT3, hT4, fun D L ss J G hD ld => ?_⟩
    refine ⟨D, z, r, g, rs, L, ss, rfl, bo, ld, fun s _ => nxS_once z r rs s, fun X M os J1 G1 XJ vJ ndo mo => ?_⟩
    have G2 := G.trans G1
    have few : ss.length ≤ 60000 := few_stgs bo ld.n fun s hs => RchS.ok bo ((ld.m s).mp hs)
    refine ⟨h, X, z, r, g, rs, M, ss, os, _, rfl, growDp G2 _ _ hh, bo, G2.t.tab hT1, G2.t.tab hT2, XJ, vJ, ndo, Nat.le_trans (List.Nodup.length_le_of_subset ndo (l₂ := ss) fun s hs => ((mo s).mp hs).1) few, fun s hs hv => (mo s).mpr ⟨(ld.m s).mpr (.first hs), hv⟩, fun v J2 G3 hv => k v J2 (G2.trans G3) hv⟩
end

/-! ### the (heads, hold) that may come next: as the law makes them -/
theorem turnD_inj {p q : List Int × Int} (h : turnD p = turnD q) : p = q := by
  unfold turnD at h
  simp only [PyData.tuple.injEq, List.cons.injEq, PyData.int.injEq, and_true] at h
  obtain ⟨h1, h2⟩ := h
  refine Prod.ext ?_ h2
  have := congrArg (List.map intD) h1
  rw [List.map_map, List.map_map] at this
  have e : ∀ l : List Int, l.map (intD ∘ PyData.int) = l := fun l => (List.map_congr_left fun x _ => rfl).trans (List.map_id _)
  rw [e, e] at this
  exact this
theorem dp_keys {K : PySem.W.Frag} {H : Hp} : ∀ {vs : List V} {ds : List PyData}, DpAll K H vs ds → (∀ d ∈ ds, ∃ xs, d = .tuple xs) → ∃ ks : List (PyData × Addr), vs = ks.map (fun p => V.ref p.2) ∧ ks.map Prod.fst = ds ∧ ∀ p ∈ ks, Dp K H (.ref p.2) p.1
  | [], [], _, _ => ⟨[], rfl, rfl, fun p hp => absurd hp List.not_mem_nil⟩
  | v :: vs, d :: ds, .cons h t, q => by
    obtain ⟨xs, rfl⟩ := q d List.mem_cons_self
    obtain ⟨ks, e1, e2, e3⟩ := dp_keys t fun d hd => q d (List.mem_cons_of_mem _ hd)
    obtain ⟨a, rfl⟩ : ∃ a, v = .ref a := by
      cases h with
      | tup h1 h2 => exact ⟨_, rfl⟩
    refine ⟨(.tuple xs, a) :: ks, by rw [e1]; rfl, by rw [List.map_cons, e2], fun p hp => ?_⟩
    rcases List.mem_cons.mp hp with rfl | hp
    · exact h
    · exact e3 p hp
/-- as the law makes them -/
def onL (z r : Int) (hs : List Int) (hold : Int) : List (List Int × Int) :=
  [(hs.headD 0 :: hs.take (hs.length - 1), if hold - 1 > 0 then hold - 1 else 0)] ++ if hold = 0 then ((List.range z.toNat).filter fun i : Nat => !decide ((i : Int) = hs.headD 0)).map fun i : Nat => ((i : Int) :: hs.take (hs.length - 1), r - 1) else []
theorem onL_mem {z r hold : Int} {hs : List Int} (x0 : 0 ≤ hs.headD 0) (xz : hs.headD 0 < z) (h0 : 0 ≤ hold) (p : List Int × Int) : p ∈ onL z r hs hold ↔ p ∈ turnsK z r hs hold := by
  unfold onL turnsK
  by_cases c : hold = 0
  · rw [if_pos c, if_neg (by omega), if_neg (by omega), List.mem_append, List.mem_singleton, List.mem_map, List.mem_map]
    constructor
    · rintro (rfl | ⟨i, hi, rfl⟩)
      · refine ⟨(hs.headD 0).toNat, List.mem_range.mpr (by omega), ?_⟩
        rw [show (((hs.headD 0).toNat : Nat) : Int) = hs.headD 0 by omega, if_pos rfl]
      · obtain ⟨a, b⟩ := List.mem_filter.mp hi
        simp only [Bool.not_eq_true', decide_eq_false_iff_not] at b
        exact ⟨i, a, by rw [if_neg b]⟩
    · rintro ⟨i, hi, rfl⟩
      by_cases e : (i : Int) = hs.headD 0
      · exact .inl (by rw [if_pos e, e])
      · exact .inr ⟨i, List.mem_filter.mpr ⟨hi, by rw [decide_eq_false e]; rfl⟩, by rw [if_neg e]⟩
  · have e : (if hold - 1 > 0 then hold - 1 else 0) = hold - 1 := by split <;> omega
    rw [e, if_neg c, if_pos (show 0 < hold by omega), List.append_nil]

/-! ### what may be known of heads and hold: worlds -/
abbrev Wd : Type := List Int × Int
def knownD (ks : List Wd) : PyData := .tuple (ks.map turnD)
def OkW (z r g : Int) (p : Wd) : Prop := (p.1.length : Int) = g + 1 ∧ InZ z p.1 ∧ 0 ≤ p.2 ∧ p.2 < r
def stepW (z r : Int) (W : Wd → Prop) : Wd → Prop := fun x => ∃ p, W p ∧ x ∈ turnsK z r p.1 p.2
def heardW (W : Wd → Prop) (s name : Int) : Wd → Prop := fun p => W p ∧ name ∈ ahead s p.1
/-- it can surely be served in so many moments -/
def SureW (z r : Int) : Nat → (Wd → Prop) → Prop
  | 0, _ => False
  | m + 1, W => SureW z r m (stepW z r W) ∨ ∃ s : Int, 0 ≤ s ∧ s < z ∧ ∀ name, (∃ p, heardW W s name p) → SureW z r m (stepW z r (heardW W s name))
abbrev memW (ks : List Wd) : Wd → Prop := fun p => p ∈ ks
theorem memW_eq {ks ls : List Wd} (h : ∀ x, x ∈ ks ↔ x ∈ ls) : memW ks = memW ls := funext fun x => propext (h x)
theorem sure_more {z r : Int} : ∀ (m : Nat) (W : Wd → Prop), SureW z r m W → SureW z r (m + 1) W
  | 0, _, h => h.elim
  | m + 1, W, h => by
    rcases h with h | ⟨s, h0, h1, h2⟩
    · exact .inl (sure_more m _ h)
    · exact .inr ⟨s, h0, h1, fun name hn => sure_more m _ (h2 name hn)⟩
theorem turns_ok {z r g : Int} {p : Wd} (r1 : 1 ≤ r) (g0 : 0 ≤ g) (ok : OkW z r g p) : ∀ x ∈ turnsK z r p.1 p.2, OkW z r g x := by
  obtain ⟨l, i, u0, u1⟩ := ok
  have hd : 0 ≤ p.1.headD 0 ∧ p.1.headD 0 < z := by
    cases e : p.1 with
    | nil => rw [e, List.length_nil] at l; omega
    | cons y t => exact i y (by rw [e]; exact List.mem_cons_self)
  have tk : ∀ y ∈ p.1.take (p.1.length - 1), 0 ≤ y ∧ y < z := fun y hy => i y (List.mem_of_mem_take hy)
  have ln : (p.1.take (p.1.length - 1)).length + 1 = p.1.length := by rw [List.length_take]; omega
  intro x hx
  unfold turnsK at hx
  split at hx
  · rw [List.mem_singleton.mp hx]
    refine ⟨by show (((p.1.headD 0 :: p.1.take (p.1.length - 1)).length : Nat) : Int) = g + 1; rw [List.length_cons]; omega, fun y hy => ?_, by show 0 ≤ p.2 - 1; omega, by show p.2 - 1 < r; omega⟩
    rcases List.mem_cons.mp hy with rfl | hy
    · exact hd
    · exact tk y hy
  · obtain ⟨k, hk, rfl⟩ := List.mem_map.mp hx
    have hk := List.mem_range.mp hk
    refine ⟨by show ((((k : Int) :: p.1.take (p.1.length - 1)).length : Nat) : Int) = g + 1; rw [List.length_cons]; omega, fun y hy => ?_, ?_, ?_⟩
    · rcases List.mem_cons.mp hy with rfl | hy
      · omega
      · exact tk y hy
    · dsimp only
      split <;> omega
    · dsimp only
      split <;> omega
theorem allR_in {z : Nat} : ∀ {n : Nat} {x : List Int}, x.length = n → (∀ y ∈ x, 0 ≤ y ∧ y < (z : Int)) → x ∈ allR z n
  | 0, x, h, _ => by
    rw [List.length_eq_zero_iff.mp h]
    exact List.mem_singleton.mpr rfl
  | n + 1, x, h, hy => by
    have ne : x ≠ [] := fun e => by rw [e] at h; cases h
    have e := List.dropLast_concat_getLast ne
    have lz := hy _ (List.getLast_mem ne)
    refine mem_extR.mpr ⟨x.dropLast, allR_in (by rw [List.length_dropLast, h]; rfl) fun y hy' => hy y (List.dropLast_subset _ hy'), (x.getLast ne).toNat, by omega, ?_⟩
    rw [show (((x.getLast ne).toNat : Nat) : Int) = x.getLast ne by omega]
    exact e.symm
def uniW (z r g : Int) : List Wd := (allR z.toNat (g + 1).toNat).flatMap fun row => (List.range r.toNat).map fun u : Nat => (row, (u : Int))
theorem uniW_mem {z r g : Int} {p : Wd} (z0 : 0 ≤ z) (g0 : 0 ≤ g) (ok : OkW z r g p) : p ∈ uniW z r g := by
  obtain ⟨l, i, u0, u1⟩ := ok
  unfold uniW
  rw [List.mem_flatMap]
  refine ⟨p.1, allR_in (by omega) fun y hy => ?_, List.mem_map.mpr ⟨p.2.toNat, List.mem_range.mpr (by omega), ?_⟩⟩
  · have := i y hy
    omega
  · rw [show ((p.2.toNat : Nat) : Int) = p.2 by omega]
theorem uniW_len {z r g : Int} : (uniW z r g).length = z.toNat ^ (g + 1).toNat * r.toNat := by
  unfold uniW
  rw [← allR_len]
  generalize allR z.toNat (g + 1).toNat = rows
  induction rows with
  | nil => simp
  | cons x rows ih => rw [List.flatMap_cons, List.length_append, ih, List.length_map, List.length_range, List.length_cons, Nat.succ_mul]; omega
theorem few_worlds {z r g : Int} {ks : List Wd} (h : HouseOf 9 z r g) (nd : ks.Nodup) (ok : ∀ p ∈ ks, OkW z r g p) : ks.length ≤ 54 := by
  obtain ⟨z2, z4, r1, r6, g0, g3, hp⟩ := h
  have a := List.Nodup.length_le_of_subset nd (l₂ := uniW z r g) fun p hp => uniW_mem (by omega) g0 (ok p hp)
  rw [uniW_len] at a
  have e : ((z.toNat : Int)) = z := Int.toNat_of_nonneg (by omega)
  have p : z.toNat ^ (g + 1).toNat ≤ 9 := by
    have : ((z.toNat ^ (g + 1).toNat : Nat) : Int) = z ^ (g + 1).toNat := by rw [Int.natCast_pow, e]
    omega
  have b := Nat.mul_le_mul p (show r.toNat ≤ 6 by omega)
  omega
theorem known_key : ∀ ks : List Wd, isKeyDs (ks.map turnD) = true
  | [] => rfl
  | k :: ks => by simp only [List.map_cons, isKeyDs, turnD, isKeyD, key_ints, known_key ks, Bool.and_self]
theorem turn_deep (p : Wd) : (turnD p).depth ≤ 2 := by
  simp only [turnD, PyData.depth, PyData.depthAll, ints_deep]
  decide
theorem known_deep (ks : List Wd) : PyData.depthAll (ks.map turnD) ≤ 2 := depthAll_le.mpr fun d hd => by
  obtain ⟨q, _, rfl⟩ := List.mem_map.mp hd
  exact turn_deep q

/-! ### sorted(set(worlds)) -/
theorem lift_turns : ∀ (ds : List PyData), (∀ d ∈ ds, ∃ q : Wd, d = turnD q) → ∃ ms : List Wd, ds = ms.map turnD
  | [], _ => ⟨[], rfl⟩
  | d :: ds, h => by
    obtain ⟨q, rfl⟩ := h d List.mem_cons_self
    obtain ⟨ms, rfl⟩ := lift_turns ds fun x hx => h x (List.mem_cons_of_mem _ hx)
    exact ⟨q :: ms, rfl⟩
theorem worlds_sorted {K : PySem.W.Frag} {w : World} {J : Hp} {F : Addr} {vs : List V} {ls : List Wd} {n : Nat} {Q : VK} (hF : SqL K J F vs) (dv : DpAll K J vs (ls.map turnD)) (few : ls.length < 299) (hl : ∀ p ∈ ls, p.1.length = n)
    (k : ∀ (l : Addr) (ys : List V) (ms : List Wd) (L : Hp), Same J L → L l = some (.lst ys) → DpAll K L ys (ms.map turnD) → ms.Nodup → (∀ x, x ∈ ms ↔ x ∈ ls) → Q (.ref l) L) : rSetK K w [.ref F] J (fun s L => rSortedK K w [s] L Q) := by
  have lv := dpAll_len dv
  rw [List.length_map] at lv
  obtain ⟨ks, rfl, ek, hks⟩ := dp_keys dv fun d hd => by
    obtain ⟨p, _, rfl⟩ := List.mem_map.mp hd
    exact ⟨_, rfl⟩
  rw [List.length_map] at lv
  have form : ∀ p ∈ ks, ∃ q ∈ ls, p.1 = turnD q := fun p hp => by
    have : p.1 ∈ ls.map turnD := by rw [← ek]; exact List.mem_map_of_mem hp
    obtain ⟨q, h1, h2⟩ := List.mem_map.mp this
    exact ⟨q, h1, h2.symm⟩
  have key : ∀ p ∈ ks, isKeyD p.1 = true ∧ p.1.depth ≤ 2 := fun p hp => by
    obtain ⟨q, _, e⟩ := form p hp
    rw [e]
    exact ⟨by simp only [turnD, isKeyD, isKeyDs, key_ints, Bool.and_self], turn_deep q⟩
  refine ⟨F, ks, rfl, hF, fun p hp => ⟨(key p hp).1, Nat.le_trans (key p hp).2 (by decide), hks p hp⟩, by omega, fun s L gs sub sup nd len => ?_⟩
  have s7 : Same J (upd J s (SetKO w s L)) := same_new gs
  refine ⟨s, L, rfl, upd_same, fun p hp => ⟨(key p (sub p hp)).1, Nat.le_trans (key p (sub p hp)).2 (by decide), dpSame s7 _ _ (hks p (sub p hp))⟩, ?_, ?_, fun M ys l pm ly hyd gl => ?_⟩
  · intro d hd d' hd'
    obtain ⟨p, hp, rfl⟩ := List.mem_map.mp hd
    obtain ⟨p', hp', rfl⟩ := List.mem_map.mp hd'
    obtain ⟨q, hq, e⟩ := form p (sub p hp)
    obtain ⟨q', hq', e'⟩ := form p' (sub p' hp')
    rw [e, e']
    have := ints_alike q.1 q'.1 ((hl q hq).trans (hl q' hq').symm)
    simp only [turnD, PySem.W.alike, PySem.W.alikeAll, this, Bool.and_self]
  · refine .inl fun d hd => ?_
    obtain ⟨p, hp, rfl⟩ := List.mem_map.mp hd
    obtain ⟨q, hq, e⟩ := form p (sub p hp)
    exact ⟨_, _, e⟩
  · have s8 := s7.trans (same_new (o := .lst ys) gl)
    have memD : ∀ d, d ∈ (M.map Prod.fst).mergeSort (PySem.W.dataLe false id) ↔ ∃ q ∈ ls, d = turnD q := fun d => by
      rw [(List.mergeSort_perm _ _).mem_iff]
      constructor
      · intro hd
        obtain ⟨p, hp, rfl⟩ := List.mem_map.mp hd
        exact form p (sub p (pm.mem_iff.mp hp))
      · rintro ⟨q, hq, rfl⟩
        have hm : turnD q ∈ ks.map Prod.fst := by rw [ek]; exact List.mem_map_of_mem hq
        obtain ⟨p, hp, e⟩ := List.mem_map.mp hm
        obtain ⟨p', hp', e'⟩ := List.mem_map.mp (sup p hp)
        exact List.mem_map.mpr ⟨p', pm.mem_iff.mpr hp', e'.trans e⟩
    have ndD : ((M.map Prod.fst).mergeSort (PySem.W.dataLe false id)).Nodup := (List.mergeSort_perm _ _).nodup_iff.mpr ((pm.map Prod.fst).nodup_iff.mpr nd)
    obtain ⟨ms, ems⟩ := lift_turns _ fun d hd => let ⟨q, _, e⟩ := (memD d).mp hd; ⟨q, e⟩
    rw [ems] at ndD hyd memD
    refine k l ys ms _ s8 upd_same (dpAllSame (same_new gl) _ _ hyd) (List.Pairwise.of_map turnD (fun _ _ ne e => ne (congrArg turnD e)) ndD) fun x => ?_
    constructor
    · intro hx
      obtain ⟨q, hq, e⟩ := (memD _).mp (List.mem_map_of_mem hx)
      rw [turnD_inj e]
      exact hq
    · intro hx
      obtain ⟨q, hq, e⟩ := List.mem_map.mp ((memD _).mpr ⟨x, hx, rfl⟩)
      rw [← turnD_inj e]
      exact hq

/-! ### worlds as objects: the heads known to the object -/
def WdAt (K : PySem.W.Frag) (H : Hp) (v : V) (p : Wd) : Prop := ∃ b c : Addr, v = .ref b ∧ SqT K H b [.ref c, .int p.2] ∧ FrzT H c (p.1.map V.int)
theorem FrzT.same {H J : Hp} {a : Addr} {xs : List V} (h : FrzT H a xs) (s : Same H J) : FrzT J a xs := let ⟨o, c, d, e⟩ := h; ⟨o, c, d, s _ _ e⟩
theorem FrzT.growZ {H J : Hp} {a : Addr} {xs : List V} (h : FrzT H a xs) (g : Grow H J) : FrzT J a xs := let ⟨o, c, d, e⟩ := h; ⟨o, c, d, g.at e⟩
theorem WdAt.same {K : PySem.W.Frag} {H J : Hp} {v : V} {p : Wd} (h : WdAt K H v p) (s : Same H J) : WdAt K J v p := let ⟨b, c, e, h1, h2⟩ := h; ⟨b, c, e, sameT s h1, h2.same s⟩
theorem WdAt.grow {K : PySem.W.Frag} {H J : Hp} {v : V} {p : Wd} (h : WdAt K H v p) (s : Grow H J) : WdAt K J v p := let ⟨b, c, e, h1, h2⟩ := h; ⟨b, c, e, s.tup h1, h2.growZ s⟩
theorem WdAt.put {K : PySem.W.Frag} {J : Hp} {D : Addr} {v : V} {p : Wd} {ys : List V} {o : HO} (h : WdAt K J v p) (hD : J D = some (.lst ys)) : WdAt K (upd J D o) v p := by
  obtain ⟨b, c, e, h1, ⟨o', c', d', h2⟩⟩ := h
  exact ⟨b, c, e, sqT_upd h1 hD, ⟨o', c', d', by rw [upd_ne (ne_of h2 hD (by intro z; cases z))]; exact h2⟩⟩
theorem WdAt.dp {K : PySem.W.Frag} {H : Hp} {v : V} {p : Wd} (h : WdAt K H v p) : Dp K H v (turnD p) := by
  obtain ⟨b, c, rfl, h1, h2⟩ := h
  exact .tup h1 (.cons (.tup h2.sq (ints_dp _)) (.cons (.int _) .nil))
abbrev WdsAt (K : PySem.W.Frag) (H : Hp) (vs : List V) (ls : List Wd) : Prop := Paired (WdAt K H) vs ls
theorem WdsAt.dps {K : PySem.W.Frag} {H : Hp} : ∀ {vs : List V} {ls : List Wd}, WdsAt K H vs ls → DpAll K H vs (ls.map turnD)
  | _, _, .nil => .nil
  | _, _, .cons r t => .cons r.dp (WdsAt.dps t)
theorem wds_len {K : PySem.W.Frag} {H : Hp} : ∀ {vs : List V} {ls : List Wd}, WdsAt K H vs ls → vs.length = ls.length
  | _, _, .nil => rfl
  | _, _, .cons _ t => by rw [List.length_cons, List.length_cons, wds_len t]
theorem wds_nth {K : PySem.W.Frag} {H : Hp} : ∀ {vs : List V} {ls : List Wd} {i : Nat} {x : V}, WdsAt K H vs ls → vs[i]? = some x → ∃ p, ls[i]? = some p ∧ WdAt K H x p
  | _, _, _, _, .nil, h => by cases h
  | _, _, 0, _, .cons (b := b) r _, h => by
    cases h
    exact ⟨b, rfl, r⟩
  | _, _, i + 1, _, .cons _ t, h => wds_nth (i := i) t h
theorem wds_app {K : PySem.W.Frag} {H : Hp} : ∀ {vs us : List V} {ls ms : List Wd}, WdsAt K H vs ls → WdsAt K H us ms → WdsAt K H (vs ++ us) (ls ++ ms)
  | _, _, _, _, .nil, h => h
  | _, _, _, _, .cons r t, h => .cons r (wds_app t h)
theorem WdsAt.mono {K : PySem.W.Frag} {H J : Hp} (f : ∀ v p, WdAt K H v p → WdAt K J v p) : ∀ {vs : List V} {ls : List Wd}, WdsAt K H vs ls → WdsAt K J vs ls
  | _, _, .nil => .nil
  | _, _, .cons r t => .cons (f _ _ r) (WdsAt.mono f t)
theorem wd_keys {K : PySem.W.Frag} {H : Hp} : ∀ {vs : List V} {ls : List Wd}, WdsAt K H vs ls → ∃ ks : List (PyData × Addr), vs = ks.map (fun p => V.ref p.2) ∧ ks.map Prod.fst = ls.map turnD ∧ ∀ p ∈ ks, ∃ q ∈ ls, p.1 = turnD q ∧ WdAt K H (.ref p.2) q
  | _, _, .nil => ⟨[], rfl, rfl, fun p hp => (nomatch hp)⟩
  | _, _, .cons (b := q) r t => by
    obtain ⟨ks, e1, e2, e3⟩ := wd_keys t
    obtain ⟨b, c, rfl, h1, h2⟩ := id r
    refine ⟨(turnD q, b) :: ks, by rw [e1]; rfl, by rw [List.map_cons, e2]; rfl, fun p hp => ?_⟩
    rcases List.mem_cons.mp hp with rfl | hp
    · exact ⟨q, List.mem_cons_self, rfl, r⟩
    · obtain ⟨q', h1, h2⟩ := e3 p hp
      exact ⟨q', List.mem_cons_of_mem _ h1, h2⟩
theorem wd_lift {K : PySem.W.Frag} {H : Hp} {ls : List Wd} : ∀ {M : List (PyData × Addr)}, (∀ x ∈ M, ∃ q ∈ ls, x.1 = turnD q ∧ WdAt K H (.ref x.2) q) → ∃ ms : List Wd, WdsAt K H (M.map fun x => V.ref x.2) ms ∧ M.map Prod.fst = ms.map turnD
  | [], _ => ⟨[], .nil, rfl⟩
  | x :: M, h => by
    obtain ⟨q, _, e, r⟩ := h x List.mem_cons_self
    obtain ⟨ms, h1, h2⟩ := wd_lift fun y hy => h y (List.mem_cons_of_mem _ hy)
    exact ⟨q :: ms, .cons r h1, by rw [List.map_cons, List.map_cons, h2, e]⟩
theorem worlds_sortedA {K : PySem.W.Frag} {w : World} {J : Hp} {F : Addr} {vs : List V} {ls : List Wd} {n : Nat} {Q : VK} (hF : SqL K J F vs) (pr : WdsAt K J vs ls) (few : ls.length < 299) (hl : ∀ p ∈ ls, p.1.length = n)
    (k : ∀ (l : Addr) (ys : List V) (ms : List Wd) (L : Hp), Same J L → L l = some (.lst ys) → WdsAt K L ys ms → ms.Nodup → (∀ x, x ∈ ms ↔ x ∈ ls) → Q (.ref l) L) : rSetK K w [.ref F] J (fun s L => rSortedA K w [s] L Q) := by
  have lv := wds_len pr
  obtain ⟨ks, rfl, ek, form⟩ := wd_keys pr
  rw [List.length_map] at lv
  have key : ∀ p ∈ ks, isKeyD p.1 = true ∧ p.1.depth ≤ 2 ∧ Dp K J (.ref p.2) p.1 := fun p hp => by
    obtain ⟨q, _, e, r⟩ := form p hp
    rw [e]
    exact ⟨turn_key15 q, turn_deep q, r.dp⟩
  refine ⟨F, ks, rfl, hF, fun p hp => ⟨(key p hp).1, Nat.le_trans (key p hp).2.1 (by decide), (key p hp).2.2⟩, by omega, fun s L gs sub sup nd len => ?_⟩
  have s7 : Same J (upd J s (SetKO w s L)) := same_new gs
  refine ⟨s, L, rfl, upd_same, fun p hp => ⟨(key p (sub p hp)).1, Nat.le_trans (key p (sub p hp)).2.1 (by decide), dpSame s7 _ _ (key p (sub p hp)).2.2⟩, ?_, ?_, fun M l subM ⟨N, pm, eN⟩ gl => ?_⟩
  · intro d hd d' hd'
    obtain ⟨p, hp, rfl⟩ := List.mem_map.mp hd
    obtain ⟨p', hp', rfl⟩ := List.mem_map.mp hd'
    obtain ⟨q, hq, e, _⟩ := form p (sub p hp)
    obtain ⟨q', hq', e', _⟩ := form p' (sub p' hp')
    rw [e, e']
    have := ints_alike q.1 q'.1 ((hl q hq).trans (hl q' hq').symm)
    simp only [turnD, PySem.W.alike, PySem.W.alikeAll, this, Bool.and_self]
  · refine .inl fun d hd => ?_
    obtain ⟨p, hp, rfl⟩ := List.mem_map.mp hd
    obtain ⟨q, hq, e, _⟩ := form p (sub p hp)
    exact ⟨_, _, e⟩
  · have s8 := s7.trans (same_new (o := .lst (M.map fun x => V.ref x.2)) gl)
    obtain ⟨ms, h1, h2⟩ := wd_lift fun x hx => form x (sub x (subM x hx))
    have pm2 : (M.map Prod.fst).Perm (L.map Prod.fst) := by
      rw [eN]
      exact (List.mergeSort_perm _ _).trans (pm.map Prod.fst)
    have memD : ∀ d, d ∈ M.map Prod.fst ↔ ∃ q ∈ ls, d = turnD q := fun d => by
      rw [pm2.mem_iff]
      constructor
      · intro hd
        obtain ⟨p, hp, rfl⟩ := List.mem_map.mp hd
        obtain ⟨q, h1, h2, _⟩ := form p (sub p hp)
        exact ⟨q, h1, h2⟩
      · rintro ⟨q, hq, rfl⟩
        have hm : turnD q ∈ ks.map Prod.fst := by rw [ek]; exact List.mem_map_of_mem hq
        obtain ⟨p, hp, e⟩ := List.mem_map.mp hm
        rw [← e]
        exact sup p hp
    have ndD := pm2.nodup_iff.mpr nd
    rw [h2] at ndD memD
    refine k l _ ms _ s8 upd_same (WdsAt.mono (fun v p h => h.same s8) h1) (List.Pairwise.of_map turnD (fun _ _ ne e => ne (congrArg turnD e)) ndD) fun x => ?_
    constructor
    · intro hx
      obtain ⟨q, hq, e⟩ := (memD _).mp (List.mem_map_of_mem hx)
      rw [turnD_inj e]
      exact hq
    · intro hx
      obtain ⟨q, hq, e⟩ := List.mem_map.mp ((memD _).mpr ⟨x, hx, rfl⟩)
      rw [← turnD_inj e]
      exact hq

def sp_lasked (K : PySem.W.Frag) : Sp := fun vs H Q _ => ∃ (h t a : V) (s r g : Int) (rs : List Row) (i : Nat) (named asked : Int) (row : Row), vs = [h, t, a] ∧ Dp K H h (houseT s r g) ∧ Dp K H t (tableD rs) ∧ Dp K H a (askerD ((i : Int), named, asked)) ∧
  rs[i]? = some row ∧ deedOk row.1 ∧ 0 < s ∧ Q (.int ((askN s row.1 named asked).getD (-1))) H
def sp_later (K : PySem.W.Frag) : Sp := fun vs H Q _ => ∃ (h t a : V) (s r g : Int) (rs : List Row) (i : Nat) (named asked name : Int) (row : Row), vs = [h, t, a, .int name] ∧ Dp K H h (houseT s r g) ∧ Dp K H t (tableD rs) ∧ Dp K H a (askerD ((i : Int), named, asked)) ∧
  rs[i]? = some row ∧ deedOk row.1 ∧ 0 < s ∧ ∀ q, H q = none → Q (.ref q) (upd H q (.tup [.int (nextA s row named asked name).1, .int (nextA s row named asked name).2.1, .int (nextA s row named asked name).2.2]))
theorem str_ne1 : ¬ ("next" : Str) = "named" := by decide +kernel
theorem str_ne2 : ¬ ("wait" : Str) = "named" := by decide +kernel
theorem str_ne3 : ¬ ("wait" : Str) = "next" := by decide +kernel
theorem str_ne4 : ¬ ("named" : Str) = "wait" := by decide +kernel
theorem str_ne5 : ¬ ("next" : Str) = "wait" := by decide +kernel
section
variable {P : Program} {w : World} {K : PySem.W.Frag} {mg : Str → Option Value} {base : Heap}
theorem ok_lasked (T : Txt K mg) : FnOk P w K mg base CX0 1 T.a_asked T.d_asked ["_law_house_here", "_law_table_here", "_law_asker"] (sp_lasked K) := by
  refine T.F_asked.ok sc_asked (fun vs H Q E h => ?_) (fun cdv A outer s H vs Q E hr h => ?_)
  · obtain ⟨_, _, _, _, _, _, _, _, _, _, _, rfl, _⟩ := h
    rfl
  · obtain ⟨h, t, a, z, r, g, rs, i, named, asked, row, rfl, hh, ht, ha, hrow, hdeed, z0, k⟩ := h
    refine ⟨_, (pss_cons (ps_set (i := 3) sc_asked.nd rfl (Or.inl rfl) (pe_ix ix_tup (pe_ix ix_tup (pv 1) (pe_ix ix_tup (pv 2) pe_int (fun _ _ => rfl)) (fun _ _ => rfl)) pe_int (fun _ _ => rfl)))
      (pss_cons (ps_if (pt_cmpR op_eq (pv 3) pe_str (nomark _))
        (pss_one (ps_ret (pe_ix ix_tup (pv 2) pe_int (fun _ _ => rfl))))
        pss_nil)
      (pss_one (ps_ret (pe_ifExp (pt_cmpR op_eq (pv 3) pe_str (nomark _)) (pe_op op_modN (pe_op op_add (pe_ix ix_tup (pv 2) pe_int (fun _ _ => rfl)) pe_int) (pe_ix ix_tup (pv 0) pe_int (fun _ _ => rfl))) (pe_un un_neg pe_int)))))), ?_⟩
    obtain ⟨ah, rfl, sh⟩ := dp_three hh
    obtain ⟨at_, xs, rfl, st, hl, rw'⟩ := dp_table ht
    obtain ⟨aa, rfl, sa⟩ := dp_three ha
    obtain ⟨b, hb, sb⟩ := rw' i row hrow
    refine ⟨_, rfl, _, rfl, aa, _, 0, _, rfl, rfl, sa, rfl, at_, xs, (i : Int), _, rfl, rfl, st, atI_nat hb, b, _, 0, _, rfl, rfl, sb, rfl, ?_⟩
    refine ⟨_, rfl, rfl, _, rfl, ?_⟩
    rw [str_dec]
    rcases hdeed with e | e | e
    · rw [decide_eq_true e]
      have q : askN z row.1 named asked = some named := by
        unfold askN
        rw [e, if_neg str_ne4, if_pos rfl]
      rw [q] at k
      exact iteT ⟨_, rfl, aa, _, 1, _, rfl, rfl, sa, rfl, k⟩
    · rw [decide_eq_false (by rw [e]; exact str_ne1)]
      have q : askN z row.1 named asked = some ((asked + 1).fmod z) := by
        unfold askN
        rw [e, if_neg str_ne5, if_neg str_ne1]
      rw [q] at k
      refine iteF ⟨_, rfl, rfl, _, rfl, ?_⟩
      rw [str_dec, decide_eq_true e]
      exact iteT ⟨_, rfl, aa, _, 2, _, rfl, rfl, sa, rfl, _, _, rfl, rfl, _, rfl, ah, _, 0, _, rfl, rfl, sh, rfl, _, _, rfl, rfl, by omega, k⟩
    · rw [decide_eq_false (by rw [e]; exact str_ne2)]
      have q : askN z row.1 named asked = none := by
        unfold askN
        rw [e, if_pos rfl]
      rw [q] at k
      refine iteF ⟨_, rfl, rfl, _, rfl, ?_⟩
      rw [str_dec, decide_eq_false (by rw [e]; exact str_ne3)]
      exact iteF ⟨1, rfl, k⟩
theorem ok_later (T : Txt K mg) : FnOk P w K mg base CX0 2 T.a_later T.d_later ["_law_house_here", "_law_table_here", "_law_asker", "_law_name"] (sp_later K) := by
  have G_asked : FnOk P w K mg base CX0 1 T.a_asked T.d_asked ["_law_house_here", "_law_table_here", "_law_asker"] (sp_lasked K) := ok_lasked T
  refine T.F_later.ok sc_later (fun vs H Q E h => ?_) (fun cdv A outer s H vs Q E hr h => ?_)
  · obtain ⟨_, _, _, _, _, _, _, _, _, _, _, _, rfl, _⟩ := h
    rfl
  · obtain ⟨h, t, a, z, r, g, rs, i, named, asked, name, row, rfl, hh, ht, ha, hrow, hdeed, z0, k⟩ := h
    refine ⟨_, (pss_cons (ps_asg (pv 2) (pg_tup (by rfl) (pgs_cons (pg_name (i := 4) sc_later.nd rfl (Or.inl rfl)) (pgs_cons (pg_name (i := 5) sc_later.nd rfl (Or.inl rfl)) (pgs_cons (pg_name (i := 6) sc_later.nd rfl (Or.inl rfl)) pgs_nil)))))
      (pss_cons (ps_asg (pe_ix ix_tup (pv 1) (pv 4) (fun _ _ => rfl)) (pg_tup (by rfl) (pgs_cons (pg_name (i := 7) sc_later.nd rfl (Or.inl rfl)) (pgs_cons (pg_name (i := 8) sc_later.nd rfl (Or.inl rfl)) (pgs_cons (pg_name (i := 9) sc_later.nd rfl (Or.inl rfl)) pgs_nil)))))
      (pss_cons (ps_if (pt_cmpR op_eq (pv 7) pe_str (nomark _))
        (pss_one (ps_ret (pe_tup (pa_cons (pv 8) (pa_cons (pv 5) (pa_cons (pv 6) pa_nil))))))
        pss_nil)
      (pss_one (ps_ret (pe_tup (pa_cons (pe_ifExp (pt_cmpR op_eq (pv 3) (pv 6) (nomark _)) (pv 9) (pv 8)) (pa_cons (pv 3) (pa_cons (pe_call G_asked (hr.mono (by omega)) (by rfl) T.g_asked T.F_asked.kp T.b_asked .nil pass0 (pa_cons (pv 0) (pa_cons (pv 1) (pa_cons (pv 2) pa_nil)))) pa_nil))))))))), ?_⟩
    obtain ⟨at_, xs, rfl, st, hl, rw'⟩ := dp_table ht
    obtain ⟨aa, rfl, sa⟩ := dp_three ha
    obtain ⟨b, hb, sb⟩ := rw' i row hrow
    refine ⟨_, rfl, aa, _, rfl, sa, rfl, _, _, rfl, _, _, rfl, _, _, rfl, rfl, ?_⟩
    refine ⟨_, rfl, _, rfl, at_, xs, (i : Int), _, rfl, rfl, st, atI_nat hb, b, _, rfl, sb, rfl, _, _, rfl, _, _, rfl, _, _, rfl, rfl, ?_⟩
    refine ⟨_, rfl, rfl, _, rfl, ?_⟩
    rw [str_dec]
    by_cases e1 : row.1 = "wait"
    · rw [decide_eq_true e1]
      have e2 : nextA z row named asked name = (row.2.1, named, asked) := by
        unfold nextA askN
        rw [if_pos e1]
      rw [e2] at k
      exact iteT ⟨_, rfl, _, rfl, _, rfl, by show 3 ≤ sizeLine; decide, fun q hq => k q hq⟩
    · rw [decide_eq_false e1]
      obtain ⟨x, hx⟩ : ∃ x, askN z row.1 named asked = some x := by
        unfold askN
        rw [if_neg e1]
        split <;> exact ⟨_, rfl⟩
      refine iteF ⟨_, rfl, _, rfl, rfl, _, rfl, ?_⟩
      by_cases en : name = asked
      · have e2 : nextA z row named asked name = (row.2.2, name, x) := by
          unfold nextA
          rw [hx]
          exact if_pos en
        rw [e2] at k
        rw [decide_eq_true (by rw [en])]
        refine iteT ⟨_, rfl, _, rfl, _, rfl, _, rfl, _, rfl, h, .ref at_, .ref aa, z, r, g, rs, i, named, asked, row, rfl, hh, ht, ha, hrow, hdeed, z0, ?_⟩
        rw [hx]
        exact ⟨by show 3 ≤ sizeLine; decide, fun q hq => k q hq⟩
      · have e2 : nextA z row named asked name = (row.2.1, name, x) := by
          unfold nextA
          rw [hx]
          exact if_neg en
        rw [e2] at k
        rw [decide_eq_false fun q => en (V.int.inj q)]
        refine iteF ⟨_, rfl, _, rfl, _, rfl, _, rfl, _, rfl, h, .ref at_, .ref aa, z, r, g, rs, i, named, asked, row, rfl, hh, ht, ha, hrow, hdeed, z0, ?_⟩
        rw [hx]
        exact ⟨by show 3 ≤ sizeLine; decide, fun q hq => k q hq⟩
end

/-! ### the (heads, hold) that may come next, as objects -/
def sp_lon38 (K : PySem.W.Frag) : Sp := fun vs H Q _ => ∃ (th a : Addr) (z r g hold : Int) (hs : List Int), vs = [.ref th, .ref a, .int hold] ∧ SqT K H th [.int z, .int r, .int g] ∧ SqT K H a (hs.map V.int) ∧ 0 < hs.length ∧ hs.length < 60 ∧ InZ z hs ∧ 2 ≤ z ∧ z ≤ 4 ∧ 0 ≤ hold ∧
  ∀ (l : Addr) (xs : List V) (ls : List Wd) (J : Hp), Same H J → J l = some (.lst xs) → WdsAt K J xs ls → ls.Nodup → ls.length ≤ 5 → (∀ x, x ∈ ls ↔ x ∈ turnsK z r hs hold) → Q (.ref l) J
section
variable {P : Program} {w : World} {K : PySem.W.Frag} {mg : Str → Option Value} {base : Heap}
theorem ok_on38 (T : Txt K mg) : FnOk P w K mg base CX0 3 T.a_on T.d_on ["_law_house_here", "_law_heads_here", "_law_hold_here"] (sp_lon38 K) := by
  refine T.F_on.ok sc_on (fun vs H Q E h => ?_) (fun cdv A outer st0 H vs Q E hr h => ?_)
  · obtain ⟨th, a, z, r, g, hold, hs, rfl, _⟩ := h
    rfl
  · obtain ⟨th, a, z, r, g, hold, hs, rfl, hth, ha, l0, l60, inH, z2, z4, h0, k⟩ := h
    refine ⟨_, (pss_cons (ps_set (i := 3) sc_on.nd rfl (Or.inl rfl) (pe_lst (pa_cons (pe_tupZ (pa_cons (pe_op op_catZ (pe_tupZ (pa_cons (pe_ix ix_tup (pv 1) pe_int (fun _ _ => rfl)) pa_nil)) (pe_slice sl_tupS (pv 1) po_none (po_some (pe_un un_neg pe_int)))) (pa_cons (pe_callB (id := "max") (call_max2 rfl) (by rfl) T.m_max (by decide +kernel) (pa_cons pe_int (pa_cons (pe_op op_sub (pv 2) pe_int) pa_nil))) pa_nil))) pa_nil)))
      (Evl.pss_cut (ps_if (pt_cmpR op_eq (pv 2) pe_int (nomark _))
        (pss_one (ps_set (i := 3) sc_on.nd rfl (Or.inl rfl) (pe_op op_cat (pv 3) (pe_lc (own := [("_law_head", 4)]) (g := gName 4) (by rfl) sc_on.nd (pi_range1 (by rfl) T.m_range (pa_cons (pe_ix ix_tup (pv 0) pe_int (fun _ _ => rfl)) pa_nil)) (blkOk_by (own := [("_law_head", 4)]) (N := ["_law_house_here", "_law_heads_here", "_law_hold_here", "_law_found", "_law_head"]) (sc := defScope s_on) (by decide +kernel)) (fun _ _ _ _ _ => (pg_name (i := 4) sc_on.nd rfl (Or.inl rfl))) (fun _ _ _ _ _ => (pts_one (pt_cmpR op_ne (pv 4) (pe_ix (ixTK K rfl) (pv 1) pe_int (fun _ _ => rfl)) (nomark _)))) (fun _ _ _ _ _ => (pe_tupZ (pa_cons (pe_op (catZK K rfl) (pe_tupZ (pa_cons (pv 4) pa_nil)) (pe_slice (slSK K rfl) (pv 1) po_none (po_some (pe_un un_neg pe_int)))) (pa_cons (pe_op op_sub (pe_ix (ixTK K rfl) (pv 0) pe_int (fun _ _ => rfl)) pe_int) pa_nil))))))))
        pss_nil)
      (pss_one (ps_ret (pe_callB (id := "sorted") (cr_sortedA rfl (hu64 hr)) (by rfl) T.m_sorted (by decide +kernel) (pa_cons (pe_callTy (T := "set") (cr_setK rfl (hu64 hr)) (by rfl) T.m_set (by decide +kernel) (pa_cons (pv 3) pa_nil)) pa_nil)))))), ?_⟩
    have ll : (hs.map V.int).length = hs.length := List.length_map ..
    obtain ⟨x0, ex0⟩ : ∃ x0, hs.headD 0 = x0 := ⟨_, rfl⟩
    have at0 : atI (hs.map V.int) 0 = some (.int x0) := by
      cases hs with
      | nil => simp at l0
      | cons x t =>
        rw [← ex0]
        exact int_nat (i := 0) rfl
    have inx : 0 ≤ x0 ∧ x0 < z := by
      cases hs with
      | nil => simp at l0
      | cons x t =>
        rw [← ex0]
        exact inH x List.mem_cons_self
    have cutI : cutV (hs.map V.int) none (some (-1)) = (hs.take (hs.length - 1)).map V.int := by rw [cut_init (by omega), ll, List.map_take]
    have big : ∀ {q : Nat}, q ≤ 9000 → q ≤ sizeLine := fun h => Nat.le_trans h (by decide)
    have tl : (hs.take (hs.length - 1)).length ≤ 60 := by rw [List.length_take]; omega
    have eL : onL z r hs hold = [(x0 :: hs.take (hs.length - 1), if hold - 1 > 0 then hold - 1 else 0)] ++ if hold = 0 then ((List.range z.toNat).filter fun i : Nat => !decide ((i : Int) = x0)).map fun i : Nat => ((i : Int) :: hs.take (hs.length - 1), r - 1) else [] := by
      unfold onL
      rw [ex0]
    have mem : ∀ p, p ∈ onL z r hs hold ↔ p ∈ turnsK z r hs hold := onL_mem (by omega) (by omega) h0
    have lL : (onL z r hs hold).length ≤ 5 := by
      rw [eL]
      by_cases hz : hold = 0
      · rw [if_pos hz, List.length_append, List.length_map, List.length_singleton]
        have f := List.length_filter_le (fun i : Nat => !decide ((i : Int) = x0)) (List.range z.toNat)
        rw [List.length_range] at f
        omega
      · rw [if_neg hz, List.append_nil, List.length_singleton]
        decide
    generalize onL z r hs hold = LL at eL mem lL
    generalize hs.take (hs.length - 1) = ini at cutI tl eL
    refine ⟨_, rfl, a, _, 0, _, rfl, rfl, ha, at0, by show 1 ≤ sizeLine; decide, fun q1 oq cq dq g1 => ?_⟩
    have s1 : Same H (upd H q1 (.frz oq (.tup [.int x0]))) := same_new g1
    have f1 : FrzT (upd H q1 (.frz oq (.tup [.int x0]))) q1 [.int x0] := ⟨oq, cq, dq, upd_same⟩
    refine ⟨_, rfl, 1, rfl, -1, rfl, a, _, rfl, sameT s1 ha, fun q2 J1 e2 s2 => ?_⟩
    rw [cutI] at e2
    refine ⟨q1, q2, _, _, rfl, rfl, sameT s2 f1.sq, e2, List.cons_ne_nil _ _, big (by rw [List.length_singleton, List.length_map]; omega), fun _ => f1.same s2, fun q3 J2 e3 s3 => ?_⟩
    have S3 := (s1.trans s2).trans s3
    refine ⟨_, rfl, _, _, rfl, rfl, _, _, rfl, by show 2 ≤ sizeLine; decide, fun b0 ob cb db gb => ⟨by show 1 ≤ sizeLine; decide, fun F gF => ?_⟩⟩
    have S4 := S3.trans (same_new (o := .frz ob (.tup [.ref q3, .int (if hold - 1 > 0 then hold - 1 else 0)])) gb)
    have S5 := S4.trans (same_new (o := .lst [.ref b0]) gF)
    have e5 : FrzT (upd (upd J2 b0 (.frz ob (.tup [.ref q3, .int (if hold - 1 > 0 then hold - 1 else 0)]))) F (.lst [.ref b0])) q3 ((x0 :: ini).map V.int) := FrzT.same e3 ((same_new gb).trans (same_new gF))
    have hb5 : upd (upd J2 b0 (.frz ob (.tup [.ref q3, .int (if hold - 1 > 0 then hold - 1 else 0)]))) F (.lst [.ref b0]) b0 = some (.frz ob (.tup [.ref q3, .int (if hold - 1 > 0 then hold - 1 else 0)])) := same_new gF _ _ upd_same
    have hF5 : upd (upd J2 b0 (.frz ob (.tup [.ref q3, .int (if hold - 1 > 0 then hold - 1 else 0)]))) F (.lst [.ref b0]) F = some (.lst [.ref b0]) := upd_same
    show gName 3 (V.ref F) _ (upd (upd J2 b0 (.frz ob (.tup [.ref q3, .int (if hold - 1 > 0 then hold - 1 else 0)]))) F (.lst [.ref b0])) _
    generalize upd (upd J2 b0 (.frz ob (.tup [.ref q3, .int (if hold - 1 > 0 then hold - 1 else 0)]))) F (.lst [.ref b0]) = J5 at *
    have d0 : WdAt K J5 (.ref b0) (x0 :: ini, if hold - 1 > 0 then hold - 1 else 0) := ⟨b0, q3, rfl, FrzT.sq ⟨ob, cb, db, hb5⟩, e5⟩
    refine ⟨fun σ' J => ∃ (F' : Addr) (y4 : Option V) (vs : List V), σ' = [some (.ref th), some (.ref a), some (.int hold), some (.ref F'), y4] ∧ J F' = some (.lst vs) ∧ Same H J ∧ WdsAt K J vs LL, ?_, ?_⟩
    · refine ⟨_, rfl, rfl, _, rfl, ite2 (fun hh => ?_) (fun hh => ⟨F, _, _, rfl, hF5, S5, ?_⟩)⟩
      · have hz : hold = 0 := by simpa using hh
        rw [if_pos hz] at eL
        have hth5 := sameT S5 hth
        refine ⟨_, rfl, _, rfl, th, _, 0, _, rfl, rfl, hth5, rfl, z, rfl, by omega, by omega, fun D gD => ?_⟩
        refine lc_range (lo := 0) (n := z.toNat) (fun i J => ∃ vs : List V, J D = some (.lst vs) ∧ vs.length ≤ i ∧ Same J5 J ∧ WdsAt K J vs (((List.range i).filter fun i : Nat => !decide ((i : Int) = x0)).map fun i : Nat => ((i : Int) :: ini, r - 1))) ⟨[], upd_same, Nat.le_refl _, same_new gD, .nil⟩ ?_ ?_
        · rintro i J hi ⟨vs, hD, lv, SJ, dv⟩
          have haJ := sameT (S5.trans SJ) ha
          have hthJ := sameT (S5.trans SJ) hth
          refine ⟨rfl, ?_⟩
          refine ⟨_, rfl, _, rfl, a, _, 0, _, rfl, rfl, haJ, at0, rfl, _, rfl, ?_⟩
          have vd : ∀ x y : Int, decide (V.int x = V.int y) = decide (x = y) := fun x y => by simp only [V.int.injEq]
          show (if (!decide (V.int (0 + (i : Int)) = V.int x0)) = true then _ else _)
          rw [vd, Int.zero_add]
          have er : ∀ b : Bool, (!decide ((i : Int) = x0)) = b → (((List.range (i + 1)).filter fun i : Nat => !decide ((i : Int) = x0)).map fun i : Nat => (((i : Int) :: ini, r - 1) : List Int × Int)) = (((List.range i).filter fun i : Nat => !decide ((i : Int) = x0)).map fun i : Nat => ((i : Int) :: ini, r - 1)) ++ if b = true then [((i : Int) :: ini, r - 1)] else [] := fun b hb => by
            rw [List.range_succ, List.filter_append, List.map_append, List.filter_cons, List.filter_nil, hb]
            cases b <;> rfl
          by_cases e0 : (i : Int) = x0
          · have e1 := er false (by simp [e0])
            rw [decide_eq_true e0]
            refine iteF ⟨vs, hD, by omega, SJ, ?_⟩
            rw [e1, if_neg Bool.false_ne_true, List.append_nil]
            exact dv
          · have e1 := er true (by simp [e0])
            rw [decide_eq_false e0]
            refine iteT ?_
            refine ⟨_, rfl, by show 1 ≤ sizeLine; decide, fun w1 ow cw dw g1 => ?_⟩
            have s1 : Same J (upd J w1 (.frz ow (.tup [.int (i : Int)]))) := same_new g1
            have f1 : FrzT (upd J w1 (.frz ow (.tup [.int (i : Int)]))) w1 [.int (i : Int)] := ⟨ow, cw, dw, upd_same⟩
            refine ⟨_, rfl, 1, rfl, -1, rfl, a, _, rfl, sameT s1 haJ, fun w2 M1 e2 s2 => ?_⟩
            rw [cutI] at e2
            refine ⟨w1, w2, _, _, rfl, rfl, sameT s2 f1.sq, e2, List.cons_ne_nil _ _, big (by rw [List.length_singleton, List.length_map]; omega), fun _ => f1.same s2, fun w3 M2 e3 s3 => ?_⟩
            have S3 := (s1.trans s2).trans s3
            refine ⟨_, rfl, th, _, 1, _, rfl, rfl, sameT S3 hthJ, rfl, _, _, rfl, rfl, by show 2 ≤ sizeLine; decide, fun w4 o4 c4 d4 g4 => ?_⟩
            have S4 := S3.trans (same_new (o := .frz o4 (.tup [.ref w3, .int (r - 1)])) g4)
            have e4 : FrzT (upd M2 w4 (.frz o4 (.tup [.ref w3, .int (r - 1)]))) w3 (((i : Int) :: ini).map V.int) := FrzT.same e3 (same_new (o := .frz o4 (.tup [.ref w3, .int (r - 1)])) g4)
            have b4 : upd M2 w4 (.frz o4 (.tup [.ref w3, .int (r - 1)])) w4 = some (.frz o4 (.tup [.ref w3, .int (r - 1)])) := upd_same
            have hD4 := S4 _ _ hD
            have dn : WdAt K (upd M2 w4 (.frz o4 (.tup [.ref w3, .int (r - 1)]))) (.ref w4) ((i : Int) :: ini, r - 1) := ⟨w4, w3, rfl, FrzT.sq ⟨o4, c4, d4, b4⟩, e4⟩
            refine ⟨vs, hD4, small1000' (by omega), vs ++ [.ref w4], upd_same, by rw [List.length_append, List.length_singleton]; omega, write_same (SJ.trans S4) gD, ?_⟩
            rw [e1, if_pos rfl]
            exact wds_app (WdsAt.mono (fun _ _ h => (h.same S4).put hD4) dv) (.cons (dn.put hD4) .nil)
        · rintro J ⟨vs, hD, lv, SJ, dv⟩
          refine ⟨F, D, _, _, rfl, rfl, SJ _ _ hF5, hD, big (by rw [List.length_singleton]; omega), fun F' gF' => ?_⟩
          have s6 : Same J (upd J F' (.lst ([.ref b0] ++ vs))) := same_new gF'
          refine ⟨F', _, _, rfl, upd_same, (S5.trans SJ).trans s6, ?_⟩
          rw [eL]
          exact wds_app (.cons (d0.same (SJ.trans s6)) .nil) (WdsAt.mono (fun _ _ h => h.same s6) dv)
      · have hz : ¬ hold = 0 := by simpa using hh
        rw [if_neg hz, List.append_nil] at eL
        rw [eL]
        exact .cons d0 .nil
    · rintro σ' J ⟨F', y4, vs, rfl, hF, S, dv⟩
      have hne : hs ≠ [] := fun e => by rw [e] at l0; simp at l0
      refine ⟨_, rfl, ?_⟩
      unfold tNil
      show rSetK K w [V.ref F'] J _
      refine worlds_sortedA (n := hs.length) (SqL.of hF) dv (by omega) (fun x hx => turnsK_len15 hne ((mem x).mp hx)) fun l ys ms M SM hl pr nd memS => ?_
      refine k l ys ms M (S.trans SM) hl pr nd ?_ fun x => (memS x).trans (mem x)
      have := List.Nodup.length_le_of_subset nd fun x hx => (memS x).mp hx
      omega
end

/-! ### the first (heads, hold), by the law, as objects -/
def sp_lfirsts38 (K : PySem.W.Frag) : Sp := fun vs H Q _ => ∃ (th : Addr) (z r g : Int), vs = [.ref th] ∧ SqT K H th [.int z, .int r, .int g] ∧ HouseOf 81 z r g ∧
  ∀ (l : Addr) (us : List V) (ms : List Wd) (J : Hp), Same H J → J l = some (.lst us) → WdsAt K J us ms → ms.Nodup → (∀ x, x ∈ ms ↔ ∃ ns ∈ begR z r g, x = (ns.reverse, holdI r ns)) → Q (.ref l) J
section
variable {P : Program} {w : World} {K : PySem.W.Frag} {mg : Str → Option Value} {base : Heap}
theorem ok_lfirsts38 (T : Txt K mg) : FnOk P w K mg base CX0 2 T.a_l_firsts T.d_l_firsts ["_law_house_here"] (sp_lfirsts38 K) := by
  have G_rest_kept : FnOk P w K mg base CX0 1 T.a_rest_kept T.d_rest_kept ["_law_course", "_law_rest"] (sp_kept K) := ok_kept T
  have G_hold : FnOk P w K mg base CX0 1 T.a_hold T.d_hold ["_law_house_here", "_law_course", "_law_moment"] (sp_lhold K) := ok_lhold T
  refine T.F_l_firsts.ok sc_l_firsts (fun vs H Q E h => ?_) (fun cdv A outer s H vs Q E hr h => ?_)
  · obtain ⟨th, z, r, g, rfl, _⟩ := h
    rfl
  · obtain ⟨th, z, r, g, rfl, hth, hz, k⟩ := h
    refine ⟨_, (pss_cons (ps_set (i := 1) sc_l_firsts.nd rfl (Or.inl rfl) (pe_lst (pa_cons (pe_tup pa_nil) pa_nil)))
      (pss_cons (ps_for PassesOwn.never rfl (pi_range1 (by rfl) T.m_range (pa_cons (pe_op op_add (pe_ix ix_tup (pv 0) pe_int (fun _ _ => rfl)) pe_int) pa_nil)) (pg_name (i := 2) sc_l_firsts.nd rfl (Or.inl rfl))
        (pss_cons (ps_set (i := 3) sc_l_firsts.nd rfl (Or.inl rfl) (pe_lst pa_nil))
      (pss_cons (ps_for PassesOwn.never rfl (pi_list (pv 1)) (pg_name (i := 4) sc_l_firsts.nd rfl (Or.inr rfl))
        (pss_one (ps_expr (pe_bm PySem.F.plainAttrs_list PySem.F.slot_list_extend PySem.F.type_list_extend mt_extend (pv 3) (pa_cons (pe_lc (own := [("_law_head", 5)]) (g := gName 5) (by rfl) sc_l_firsts.nd (pi_range1 (by rfl) T.m_range (pa_cons (pe_ix ix_tup (pv 0) pe_int (fun _ _ => rfl)) pa_nil)) (blkOk_by (own := [("_law_head", 5)]) (N := ["_law_house_here", "_law_some", "_law_k", "_law_longer", "_law_course", "_law_head"]) (sc := defScope s_l_firsts) (by decide +kernel)) (fun _ _ _ _ _ => (pg_name (i := 5) sc_l_firsts.nd rfl (Or.inl rfl))) (fun _ _ _ _ _ => pts_nil) (fun _ _ _ _ _ => (pe_op (catSK K rfl) (pv 4) (pe_tup (pa_cons (pv 5) pa_nil))))) pa_nil)))))
      (pss_one (ps_setLc (i := 1) (own := [("_law_course", 4)]) (g := gName 4) (by rfl) sc_l_firsts.nd rfl rfl (sw_true rfl rfl rfl (by decide +kernel)) (pi_list (pv 3)) (blkOk_by (own := [("_law_course", 4)]) (N := ["_law_house_here", "_law_some", "_law_k", "_law_longer", "_law_course", "_law_head"]) (sc := defScope s_l_firsts) (by decide +kernel)) (fun _ _ _ _ _ => (pg_name (i := 4) sc_l_firsts.nd rfl (Or.inl rfl))) (fun _ _ _ _ _ => (pts_one (pt_val (pe_call G_rest_kept (hr.mono (by omega)) (by rfl) T.g_rest_kept T.F_rest_kept.kp T.b_rest_kept .nil pass0 (pa_cons (pv 4) (pa_cons (pe_ix (ixTK K rfl) (pv 0) pe_int (fun _ _ => rfl)) pa_nil)))))) (fun _ _ _ _ _ => (pv 4)))))))
      (pss_one (ps_ret (pe_callB (id := "sorted") (cr_sortedA rfl (hu64 hr)) (by rfl) T.m_sorted (by decide +kernel) (pa_cons (pe_callTy (T := "set") (cr_setK rfl (hu64 hr)) (by rfl) T.m_set (by decide +kernel) (pa_cons (pe_lc (own := [("_law_course", 4)]) (g := gName 4) (by rfl) sc_l_firsts.nd (pi_list (pv 1)) (blkOk_by (own := [("_law_course", 4)]) (N := ["_law_house_here", "_law_some", "_law_k", "_law_longer", "_law_course", "_law_head"]) (sc := defScope s_l_firsts) (by decide +kernel)) (fun _ _ _ _ _ => (pg_name (i := 4) sc_l_firsts.nd rfl (Or.inl rfl))) (fun _ _ _ _ _ => pts_nil) (fun _ _ _ _ _ => (pe_tup (pa_cons (pe_revZK K rfl (pv 4)) (pa_cons (pe_call G_hold (hr.mono (by omega)) (by rfl) T.g_hold T.F_hold.kp T.b_hold .nil pass0 (pa_cons (pv 0) (pa_cons (pv 4) (pa_cons (pe_ix (ixTK K rfl) (pv 0) pe_int (fun _ _ => rfl)) pa_nil)))) pa_nil))))) pa_nil)) pa_nil)))))), ?_⟩
    obtain ⟨z2, z4, r1, r6, g0, g3, _⟩ := id hz
    refine ⟨by show 0 ≤ sizeLine; decide, fun q0 h0 => ⟨by show 1 ≤ sizeLine; decide, fun a0 ha0 => ?_⟩⟩
    have S1 : Same H (upd (upd H q0 (.tup [])) a0 (.lst [.ref q0])) := (same_new h0).trans (same_new ha0)
    have A0 : (upd (upd H q0 (.tup [])) a0 (.lst [.ref q0])) a0 = some (.lst [.ref q0]) := upd_same
    have Q0 : (upd (upd H q0 (.tup [])) a0 (.lst [.ref q0])) q0 = some (.tup []) := same_new ha0 _ _ upd_same
    show gName 1 (V.ref a0) _ (upd (upd H q0 (.tup [])) a0 (.lst [.ref q0])) _
    generalize upd (upd H q0 (.tup [])) a0 (.lst [.ref q0]) = J0 at S1 A0 Q0 ⊢
    have l81 : ∀ n : Nat, n ≤ (g + 1).toNat → (lawR z.toNat r n).length ≤ 81 ∧ (extR z.toNat (lawR z.toNat r n)).length ≤ 400 := fun n hn => by
      have a := allR_small hz n hn
      have b : (lawR z.toNat r n).length ≤ (allR z.toNat n).length := by
        rw [lawR_eq]
        exact List.length_filter_le _ _
      refine ⟨by omega, ?_⟩
      rw [extR_len]
      have c : (lawR z.toNat r n).length * z.toNat ≤ 81 * 4 := Nat.mul_le_mul (by omega) (by omega)
      omega
    have rowl : ∀ n : Nat, ∀ row ∈ lawR z.toNat r n, row.length = n := fun n row hrow => by
      rw [lawR_eq] at hrow
      exact (allR_mem (List.mem_filter.mp hrow).1).1
    refine ⟨_, rfl, th, _, 2, _, rfl, rfl, sameT S1 hth, rfl, _, _, rfl, rfl, _, rfl, by omega, by omega, for_range (lo := 0) (n := (g + 1).toNat) (fun i σ J => ∃ (y2 y3 y4 : Option V) (R : Addr) (us : List V), σ = [some (.ref th), some (.ref R), y2, y3, y4, none] ∧ Same H J ∧ J R = some (.lst us) ∧ RowsAt K J us (lawR z.toNat r i)) ⟨_, _, _, a0, _, rfl, S1, A0, .cons ⟨q0, rfl, SqT.of Q0⟩ .nil⟩ ?_ ?_⟩
    · rintro i σ J hi ⟨y2, y3, y4, R, us, rfl, S, hR, pr⟩
      obtain ⟨la, lb⟩ := l81 i (by omega)
      have rl := rowl i
      have eN : lawR z.toNat r (i + 1) = (extR z.toNat (lawR z.toNat r i)).filter fun ns => keptB ns r := rfl
      rw [eN]
      generalize lawR z.toNat r i = rows at pr la lb rl ⊢
      have lus := paired_length pr
      refine ⟨by show 0 ≤ sizeLine; decide, fun L hL => ?_⟩
      have S2 : Same J (upd J L (.lst [])) := same_new hL
      have L0 : (upd J L (.lst [])) L = some (.lst []) := upd_same
      show gName 3 (V.ref L) _ (upd J L (.lst [])) _
      have nRL : R ≠ L := ne_of_none hR hL
      generalize upd J L (.lst []) = J1 at S2 L0 ⊢
      refine ⟨_, rfl, R, rfl, ⟨_, SqL.of (S2 _ _ hR)⟩, for_list (K := K) (a := R) (xs := us) (fun m σ M => ∃ (y4 : Option V) (vs : List V), σ = [some (.ref th), some (.ref R), some (.int (0 + (i : Int))), some (.ref L), y4, none] ∧ Same J M ∧ M L = some (.lst vs) ∧ RowsAt K M vs (extR z.toNat (rows.take m))) ⟨_, [], rfl, S2, L0, .nil⟩ (fun m σ M _ ⟨_, _, _, SM, _⟩ => SqL.of (SM _ _ hR)) ?_ ?_⟩
      · rintro m x σ M hx ⟨y4, vs, rfl, SM, hLM, pv⟩
        obtain ⟨row, hrow, q, rfl, sq⟩ := paired_nth pr hx
        have hlt : m < us.length := (List.getElem?_eq_some_iff.mp hx).1
        have erow : rows.take (m + 1) = rows.take m ++ [row] := by rw [List.take_add_one, hrow]; rfl
        have rlen := rl row (List.mem_of_getElem? hrow)
        refine ⟨_, rfl, .inl ⟨rfl, _, SqL.of hLM⟩, ?_⟩
        refine ⟨_, rfl, th, _, 0, _, rfl, rfl, sameT (S.trans SM) hth, rfl, z, rfl, by omega, by omega, fun D hD => ?_⟩
        have nLD : L ≠ D := ne_of_none hLM hD
        refine lc_range (lo := 0) (n := z.toNat) (fun j N => ∃ ws : List V, Same M N ∧ N D = some (.lst ws) ∧ RowsAt K N ws ((List.range j).map fun h : Nat => row ++ [(h : Int)])) ⟨[], same_new hD, upd_same, .nil⟩ ?_ ?_
        · rintro j N hj ⟨ws, SN, hN, pw⟩
          have lw := paired_length pw
          rw [List.length_map, List.length_range] at lw
          refine ⟨rfl, ?_⟩
          unfold tYes
          refine iteT ⟨_, rfl, _, rfl, by show 1 ≤ sizeLine; decide, fun t ht => ?_⟩
          have s1 : Same N (upd N t (.tup [.int (0 + (j : Int))])) := same_new ht
          refine ⟨q, t, _, _, rfl, rfl, sameT ((SM.trans SN).trans s1) sq, SqT.of upd_same, Nat.le_trans (by rw [List.length_map, rlen, List.length_singleton]; omega : _ ≤ 100) (by decide), fun t2 M2 e2 S3 => ?_⟩
          have S4 := s1.trans S3
          have hN2 := S4 _ _ hN
          refine ⟨ws, hN2, Nat.lt_of_lt_of_le (by omega : ws.length < 100) (by decide), ws ++ [.ref t2], writeS (SN.trans S4) hD, upd_same, ?_⟩
          rw [List.range_succ, List.map_append]
          refine paired_put ((pw.same S4).put hN2) ⟨t2, rfl, sqT_upd ?_ hN2⟩
          have e5 : SqT K M2 t2 (row.map V.int ++ [V.int (0 + (j : Int))]) := e2
          rw [Int.zero_add] at e5
          rw [List.map_append]
          exact e5
        · rintro N ⟨ws, SN, hN, pw⟩
          have lv := paired_length pv
          have lw := paired_length pw
          rw [List.length_map, List.length_range] at lw
          have hLN := SN _ _ hLM
          have lsub : (extR z.toNat (rows.take m)).length ≤ 324 := by
            rw [extR_len]
            have c : (rows.take m).length * z.toNat ≤ 81 * 4 := Nat.mul_le_mul (by rw [List.length_take]; omega) (by omega)
            omega
          refine ⟨L, D, vs, ws, rfl, rfl, hLN, hN, Nat.le_trans (by omega : vs.length + ws.length ≤ 400) (by decide), ?_⟩
          refine ⟨_, vs ++ ws, rfl, writeS (SM.trans SN) hL, upd_same, ?_⟩
          rw [erow, extR_append]
          have e4 : extR z.toNat [row] = (List.range z.toNat).map fun h : Nat => row ++ [(h : Int)] := by unfold extR; simp
          rw [e4]
          have pa : ∀ {xs ys : List V} {as bs : List (List Int)} {G : Hp}, RowsAt K G xs as → RowsAt K G ys bs → RowsAt K G (xs ++ ys) (as ++ bs) := by
            intro xs ys as bs G h1 h2
            induction h1 with
            | nil => exact h2
            | cons a _ ih => exact .cons a ih
          exact pa ((pv.same SN).put hLN) (pw.put hLN)
      · rintro σ M ⟨y4, vs, rfl, SM, hLM, pv⟩
        rw [lus, List.take_length] at pv
        have exl : ∀ row ∈ extR z.toNat rows, row.length ≤ 50 := fun row hrow => by
          obtain ⟨q, hq, h, _, rfl⟩ := mem_extR.mp hrow
          rw [List.length_append, rl q hq, List.length_singleton]
          omega
        generalize extR z.toNat rows = ext at pv lb exl ⊢
        have lv := paired_length pv
        refine ⟨_, rfl, L, rfl, ⟨_, SqL.of hLM⟩, fun D hD => ?_⟩
        refine lc_list (K := K) (a := L) (xs := vs) (fun m N => ∃ ws : List V, Same M N ∧ N D = some (.lst ws) ∧ ws.length ≤ m ∧ RowsAt K N ws ((ext.take m).filter fun ns => keptB ns r)) ⟨[], same_new hD, upd_same, Nat.le_refl _, .nil⟩ (fun m N _ ⟨_, SN, _⟩ => SqL.of (SN _ _ hLM)) ?_ ?_
        · rintro m x N hx ⟨ws, SN, hN, lw, pw⟩
          obtain ⟨row, hrow, q, rfl, sq⟩ := paired_nth pv hx
          have hlt : m < vs.length := (List.getElem?_eq_some_iff.mp hx).1
          refine ⟨rfl, ?_⟩
          have rle := exl row (List.mem_of_getElem? hrow)
          have e6 : (ext.take (m + 1)).filter (fun ns => keptB ns r) = (ext.take m).filter (fun ns => keptB ns r) ++ if keptB row r = true then [row] else [] := by
            rw [List.take_add_one, hrow, List.filter_append]
            simp only [Option.toList_some, List.filter_cons, List.filter_nil]
          refine ⟨_, rfl, _, rfl, th, _, 1, _, rfl, rfl, sameT ((S.trans SM).trans SN) hth, rfl, q, r, row, rfl, .inr (sameT SN sq), by omega, fun N2 S2 => ⟨_, rfl, ite2 (fun hk => ?_) (fun hk => ?_)⟩⟩
          · rw [if_pos hk] at e6
            have hN2 := S2 _ _ hN
            refine ⟨_, rfl, ws, hN2, Nat.lt_of_lt_of_le (by omega : ws.length < 1000) (by decide), ws ++ [.ref q], writeS (SN.trans S2) hD, upd_same, by rw [List.length_append, List.length_singleton]; omega, ?_⟩
            rw [e6]
            exact paired_put ((pw.same S2).put hN2) ⟨q, rfl, sqT_upd (sameT (SN.trans S2) sq) hN2⟩
          · rw [if_neg hk, List.append_nil] at e6
            exact ⟨ws, SN.trans S2, S2 _ _ hN, by omega, by rw [e6]; exact pw.same S2⟩
        · rintro N ⟨ws, SN, hN, lw, pw⟩
          rw [lv, List.take_length] at pw
          exact ⟨_, _, _, D, ws, rfl, (S.trans SM).trans SN, hN, pw⟩
    · rintro σ J ⟨y2, y3, y4, R, us, rfl, S, hR, pr⟩
      obtain ⟨gn, rfl⟩ : ∃ n : Nat, g = (n : Int) := ⟨g.toNat, (Int.toNat_of_nonneg g0).symm⟩
      have eg : ((gn : Int) + 1).toNat = gn + 1 := by omega
      have eB : begR z r (gn : Int) = lawR z.toNat r ((gn : Int) + 1).toNat := (lawR_eq _ _ _).symm
      have rl := rowl ((gn : Int) + 1).toNat
      have la := (l81 _ (Nat.le_refl _)).1
      rw [← eB] at pr rl la
      generalize begR z r (gn : Int) = rows at pr rl la k
      have lus := paired_length pr
      have hthJ := sameT S hth
      refine ⟨_, rfl, R, rfl, ⟨_, SqL.of hR⟩, fun D hD => ?_⟩
      refine lc_list (K := K) (a := R) (xs := us) (fun m N => ∃ ws : List V, Same J N ∧ N D = some (.lst ws) ∧ WdsAt K N ws ((rows.take m).map fun ns => (ns.reverse, holdI r ns))) ⟨[], same_new hD, upd_same, .nil⟩ (fun m N _ ⟨_, SN, _⟩ => SqL.of (SN _ _ hR)) ?_ ?_
      · rintro m x N hx ⟨ws, SN, hN, dk⟩
        obtain ⟨row, hrow, q, rfl, sq⟩ := paired_nth pr hx
        have hlt : m < us.length := (List.getElem?_eq_some_iff.mp hx).1
        have rlen := rl row (List.mem_of_getElem? hrow)
        refine ⟨rfl, ?_⟩
        unfold tYes
        refine iteT ⟨_, rfl, q, _, rfl, sameT SN sq, fun t ot ct dt ht => ?_⟩
        have s1 : Same N (upd N t (.frz ot (.tup (row.map V.int).reverse))) := same_new ht
        have T1 : (upd N t (.frz ot (.tup (row.map V.int).reverse))) t = some (.frz ot (.tup (row.map V.int).reverse)) := upd_same
        show (tCons _ _ : TA) _ (upd N t (.frz ot (.tup (row.map V.int).reverse))) _
        generalize upd N t (.frz ot (.tup (row.map V.int).reverse)) = N1 at s1 T1 ⊢
        have S1' := SN.trans s1
        refine ⟨_, rfl, _, rfl, _, rfl, th, _, 2, _, rfl, rfl, sameT S1' hthJ, rfl, th, q, z, r, (gn : Int), gn, row, rfl, sameT S1' hthJ, sameT S1' sq, by omega, by omega, by omega, by omega, fun N2 S2 => ?_⟩
        refine ⟨by show 2 ≤ sizeLine; decide, fun t2 ht2 => ?_⟩
        have S3 : Same N2 (upd N2 t2 (.tup [.ref t, .int (holdI r row)])) := same_new ht2
        have T2 : (upd N2 t2 (.tup [.ref t, .int (holdI r row)])) t2 = some (.tup [.ref t, .int (holdI r row)]) := upd_same
        show ∃ acc, (upd N2 t2 (.tup [.ref t, .int (holdI r row)])) D = _ ∧ _
        generalize upd N2 t2 (.tup [.ref t, .int (holdI r row)]) = N3 at S3 T2 ⊢
        have S23 := S2.trans S3
        have S13 := s1.trans S23
        have hN3 := S13 _ _ hN
        have fz : FrzT N3 t ((row.reverse).map V.int) := by
          rw [List.map_reverse]
          exact ⟨ot, ct, dt, S23 _ _ T1⟩
        have dn : WdAt K N3 (.ref t2) (row.reverse, holdI r row) := ⟨t2, t, rfl, SqT.of T2, fz⟩
        have lw := wds_len dk
        rw [List.length_map, List.length_take] at lw
        refine ⟨ws, hN3, Nat.lt_of_lt_of_le (by omega : ws.length < 100) (by decide), ws ++ [.ref t2], writeS (SN.trans S13) hD, upd_same, ?_⟩
        rw [List.take_add_one, hrow, List.map_append]
        exact wds_app (WdsAt.mono (fun _ _ h => (h.same S13).put hN3) dk) (.cons (dn.put hN3) .nil)
      · rintro N ⟨ws, SN, hN, dk⟩
        rw [lus, List.take_length] at dk
        have lw := wds_len dk
        rw [List.length_map] at lw
        unfold tNil
        show rSetK K w [V.ref D] N _
        refine worlds_sortedA (n := gn + 1) (SqL.of hN) dk (by rw [List.length_map]; omega) (fun x hx => ?_) fun l ys ms M SM hl pr nd mem => ?_
        · obtain ⟨ns, h1, rfl⟩ := List.mem_map.mp hx
          show ns.reverse.length = _
          rw [List.length_reverse, rl ns h1, eg]
        · refine k l ys ms M ((S.trans SN).trans SM) hl pr nd fun x => ?_
          rw [mem, List.mem_map]
          exact ⟨fun ⟨a, b, c⟩ => ⟨a, b, c.symm⟩, fun ⟨a, b, c⟩ => ⟨a, b, c.symm⟩⟩
end

/-! ### the law's own word on who may be named, from the heads -/
theorem ahead_first {s : Int} : ∀ {ns : List Int}, s ∈ ns → ∃ j, ns[j]? = some s ∧ (∀ m, m < j → ns[m]? ≠ some s) ∧ ahead s ns = ns.take j
  | x :: r, h => by
    by_cases e : x = s
    · exact ⟨0, by simp [e], fun m hm => absurd hm (Nat.not_lt_zero m), by simp [ahead, e]⟩
    · rcases List.mem_cons.mp h with z | z
      · exact absurd z.symm e
      · obtain ⟨j, h1, h2, h3⟩ := ahead_first z
        refine ⟨j + 1, by simpa using h1, fun m hm => ?_, by simp only [ahead, if_neg e, List.take_succ_cons, h3]⟩
        cases m with
        | zero => simpa using e
        | succ m => simpa using h2 m (by omega)
def sp_said (K : PySem.W.Frag) : Sp := fun vs H Q _ => ∃ (a : Addr) (s : Int) (ns : List Int), vs = [.ref a, .int s] ∧ FrzT H a (ns.map V.int) ∧ ns.length < 60 ∧
  ∀ (out : List Int) (t : Addr) (J : Hp), Sorted out (ahead s ns) → Same H J → J t = some (.tup (out.map V.int)) → Q (.ref t) J
section
variable {P : Program} {w : World} {K : PySem.W.Frag} {mg : Str → Option Value} {base : Heap}
theorem ok_said (T : Txt K mg) : FnOk P w K mg base CX0 1 T.a_said T.d_said ["_law_heads_here", "_law_server"] (sp_said K) := by
  refine T.F_said.ok sc_said (fun vs H Q E h => ?_) (fun cdv A outer st H vs Q E hr h => ?_)
  · obtain ⟨a, s, ns, rfl, _⟩ := h
    rfl
  · obtain ⟨a, s, ns, rfl, hf, hl, k⟩ := h
    have hx : SqT K H a (ns.map V.int) := hf.sq
    refine ⟨_, (pss_cons (ps_set (i := 2) sc_said.nd rfl (Or.inl rfl) (pe_ifExp (pt_cmpR op_in_seq (pv 1) (pv 0) (by rfl)) (pe_slice sl_tupS (pv 0) po_none (po_some (pe_bmT PySem.F.slot_tuple_index PySem.F.type_tuple_index mt_idxT (pv 0) (pa_cons (pv 1) pa_nil)))) (pv 0)))
      (pss_one (ps_ret (pe_callTy (T := "tuple") call_tuple_of (by rfl) T.m_tuple (by decide +kernel) (pa_cons (pe_callB (id := "sorted") (cr_sortedSet rfl) (by rfl) T.m_sorted (by decide +kernel) (pa_cons (pe_callTy (T := "set") (cr_setN rfl) (by rfl) T.m_set (by decide +kernel) (pa_cons (pv 2) pa_nil)) pa_nil)) pa_nil))))), ?_⟩
    have ll : (ns.map V.int).length = ns.length := List.length_map ..
    refine ⟨_, rfl, _, rfl, a, _, rfl, .inr hx, rfl, flat_ints _, ?_⟩
    rw [if_neg (by decide), inV_ints]
    refine ⟨_, rfl, ?_⟩
    refine ite2 (fun e => ?_) (fun e => ?_)
    · have hs : s ∈ ns := by simpa using e
      obtain ⟨j, j1, j2, ea⟩ := ahead_first hs
      have lj := (List.getElem?_eq_some_iff.mp j1).1
      refine ⟨_, rfl, _, rfl, ⟨a, _, rfl, hf⟩, _, rfl, a, ns, s, j, rfl, rfl, hx, j1, j2, _, rfl, a, _, rfl, hx, fun q J c S => ?_⟩
      rw [cut_to _ j (by omega), ← List.map_take, ← ea] at c
      have la : (ahead s ns).length < 60 := by rw [ea, List.length_take]; omega
      exact ⟨_, rfl, q, ahead s ns, rfl, .inr c, by omega, fun p1 c1 lc h1 => ⟨p1, _, c1, rfl, upd_same, by omega, fun out p2 o1 o2 o3 h2 => ⟨p2, _, rfl, .inl ⟨SqL.of upd_same, fun t ht =>
        k out t _ ⟨o1, fun u => by rw [o2 u]; exact decide_eq_true_iff⟩ (((S.trans (same_new h1)).trans (same_new h2)).trans (same_new ht)) upd_same⟩⟩⟩⟩
    · have hs : s ∉ ns := by simpa using e
      have ea : ahead s ns = ns := ahead_all fun x hx z => hs (z ▸ hx)
      have la : (ahead s ns).length < 60 := by rw [ea]; omega
      have c : SqT K H a ((ahead s ns).map V.int) := by rw [ea]; exact hx
      exact ⟨_, rfl, _, rfl, a, ahead s ns, rfl, .inr c, by omega, fun p1 c1 lc h1 => ⟨p1, _, c1, rfl, upd_same, by omega, fun out p2 o1 o2 o3 h2 => ⟨p2, _, rfl, .inl ⟨SqL.of upd_same, fun t ht =>
        k out t _ ⟨o1, fun u => by rw [o2 u]; exact decide_eq_true_iff⟩ (((same_new h1).trans (same_new h2)).trans (same_new ht)) upd_same⟩⟩⟩⟩
end

/-! ### standings as objects: the heads known to the object -/
def StgAt (K : PySem.W.Frag) (H : Hp) (v : V) (s : Stg) : Prop := ∃ b c e : Addr, v = .ref b ∧ SqT K H b [.ref c, .int s.2.1, .ref e] ∧ FrzT H c (s.1.map V.int) ∧ SqT K H e [.int s.2.2.1, .int s.2.2.2.1, .int s.2.2.2.2]
theorem StgAt.keep {K : PySem.W.Frag} {H J : Hp} {v : V} {s : Stg} (k : TupK H J) (h : StgAt K H v s) : StgAt K J v s := let ⟨b, c, e, h1, h2, ⟨o, o1, o2, h3⟩, h4⟩ := h; ⟨b, c, e, h1, k.tup h2, ⟨o, o1, o2, k.z _ _ _ h3⟩, k.tup h4⟩
theorem StgAt.dp {K : PySem.W.Frag} {H : Hp} {v : V} {s : Stg} (h : StgAt K H v s) : Dp K H v (stgD s) := by
  obtain ⟨b, c, e, rfl, h1, h2, h3⟩ := h
  exact .tup h1 (.cons (.tup h2.sq (ints_dp _)) (.cons (.int _) (.cons (.tup h3 (.cons (.int _) (.cons (.int _) (.cons (.int _) .nil)))) .nil)))
abbrev StgsAt (K : PySem.W.Frag) (H : Hp) (vs : List V) (ls : List Stg) : Prop := Paired (StgAt K H) vs ls
theorem StgsAt.keep {K : PySem.W.Frag} {H J : Hp} (k : TupK H J) : ∀ {vs : List V} {ls : List Stg}, StgsAt K H vs ls → StgsAt K J vs ls
  | _, _, .nil => .nil
  | _, _, .cons r t => .cons (r.keep k) (StgsAt.keep k t)
theorem StgsAt.dps {K : PySem.W.Frag} {H : Hp} : ∀ {vs : List V} {ls : List Stg}, StgsAt K H vs ls → DpAll K H vs (ls.map stgD)
  | _, _, .nil => .nil
  | _, _, .cons r t => .cons r.dp (StgsAt.dps t)
theorem StgsAt.app {K : PySem.W.Frag} {H : Hp} : ∀ {vs us : List V} {ls ms : List Stg}, StgsAt K H vs ls → StgsAt K H us ms → StgsAt K H (vs ++ us) (ls ++ ms)
  | _, _, _, _, .nil, h => h
  | _, _, _, _, .cons r t, h => .cons r (StgsAt.app t h)
theorem StgsAt.nth {K : PySem.W.Frag} {H : Hp} : ∀ {vs : List V} {ls : List Stg} {i : Nat} {x : V}, StgsAt K H vs ls → vs[i]? = some x → ∃ p, ls[i]? = some p ∧ StgAt K H x p
  | _, _, _, _, .nil, h => by cases h
  | _, _, 0, _, .cons (b := b) r _, h => by
    cases h
    exact ⟨b, rfl, r⟩
  | _, _, i + 1, _, .cons _ t, h => StgsAt.nth (i := i) t h
theorem stg_keys {K : PySem.W.Frag} {H : Hp} : ∀ {vs : List V} {ls : List Stg}, StgsAt K H vs ls → ∃ ks : List (PyData × Addr), vs = ks.map (fun p => V.ref p.2) ∧ ks.map Prod.fst = ls.map stgD ∧ ∀ p ∈ ks, ∃ q ∈ ls, p.1 = stgD q ∧ StgAt K H (.ref p.2) q
  | _, _, .nil => ⟨[], rfl, rfl, fun p hp => (nomatch hp)⟩
  | _, _, .cons (b := q) r t => by
    obtain ⟨ks, e1, e2, e3⟩ := stg_keys t
    obtain ⟨b, c, e, rfl, _⟩ := id r
    refine ⟨(stgD q, b) :: ks, by rw [e1]; rfl, by rw [List.map_cons, e2]; rfl, fun p hp => ?_⟩
    rcases List.mem_cons.mp hp with rfl | hp
    · exact ⟨q, List.mem_cons_self, rfl, r⟩
    · obtain ⟨q', h1, h2⟩ := e3 p hp
      exact ⟨q', List.mem_cons_of_mem _ h1, h2⟩
theorem stg_lift {K : PySem.W.Frag} {H : Hp} {ls : List Stg} : ∀ {M : List (PyData × Addr)}, (∀ x ∈ M, ∃ q ∈ ls, x.1 = stgD q ∧ StgAt K H (.ref x.2) q) → ∃ ms : List Stg, StgsAt K H (M.map fun x => V.ref x.2) ms ∧ M.map Prod.fst = ms.map stgD
  | [], _ => ⟨[], .nil, rfl⟩
  | x :: M, h => by
    obtain ⟨q, _, e, r⟩ := h x List.mem_cons_self
    obtain ⟨ms, h1, h2⟩ := stg_lift fun y hy => h y (List.mem_cons_of_mem _ hy)
    exact ⟨q :: ms, .cons r h1, by rw [List.map_cons, List.map_cons, h2, e]⟩
theorem stgs_sortedA {K : PySem.W.Frag} {w : World} {J : Hp} {F : Addr} {vs : List V} {ls : List Stg} {n : Nat} {Q : VK} (hF : SqL K J F vs) (pr : StgsAt K J vs ls) (few : ls.length < 63) (hl : ∀ p ∈ ls, p.1.length = n)
    (k : ∀ (l : Addr) (ys : List V) (ms : List Stg) (L : Hp), J l = none → Same J L → L l = some (.lst ys) → StgsAt K L ys ms → ms.Nodup → (∀ x, x ∈ ms ↔ x ∈ ls) → Q (.ref l) L) : rSetK K w [.ref F] J (fun s L => rSortedA K w [s] L Q) := by
  have lv := paired_length pr
  obtain ⟨ks, rfl, ek, form⟩ := stg_keys pr
  rw [List.length_map] at lv
  have key : ∀ p ∈ ks, isKeyD p.1 = true ∧ p.1.depth ≤ 3 ∧ Dp K J (.ref p.2) p.1 := fun p hp => by
    obtain ⟨q, _, e, r⟩ := form p hp
    rw [e]
    exact ⟨stg_key q, stg_deep q, r.dp⟩
  refine ⟨F, ks, rfl, hF, fun p hp => ⟨(key p hp).1, Nat.le_trans (key p hp).2.1 (by decide), (key p hp).2.2⟩, by omega, fun s L gs sub sup nd len => ?_⟩
  have s7 : Same J (upd J s (SetKO w s L)) := same_new gs
  refine ⟨s, L, rfl, upd_same, fun p hp => ⟨(key p (sub p hp)).1, Nat.le_trans (key p (sub p hp)).2.1 (by decide), dpSame s7 _ _ (key p (sub p hp)).2.2⟩, ?_, ?_, fun M l subM ⟨N, pm, eN⟩ gl => ?_⟩
  · intro d hd d' hd'
    obtain ⟨p, hp, rfl⟩ := List.mem_map.mp hd
    obtain ⟨p', hp', rfl⟩ := List.mem_map.mp hd'
    obtain ⟨q, hq, e, _⟩ := form p (sub p hp)
    obtain ⟨q', hq', e', _⟩ := form p' (sub p' hp')
    rw [e, e']
    exact stg_alike ((hl q hq).trans (hl q' hq').symm)
  · refine .inl fun d hd => ?_
    obtain ⟨p, hp, rfl⟩ := List.mem_map.mp hd
    obtain ⟨q, hq, e, _⟩ := form p (sub p hp)
    exact ⟨_, _, e⟩
  · have s8 := s7.trans (same_new (o := .lst (M.map fun x => V.ref x.2)) gl)
    obtain ⟨ms, h1, h2⟩ := stg_lift fun x hx => form x (sub x (subM x hx))
    have pm2 : (M.map Prod.fst).Perm (L.map Prod.fst) := by
      rw [eN]
      exact (List.mergeSort_perm _ _).trans (pm.map Prod.fst)
    have memD : ∀ d, d ∈ M.map Prod.fst ↔ ∃ q ∈ ls, d = stgD q := fun d => by
      rw [pm2.mem_iff]
      constructor
      · intro hd
        obtain ⟨p, hp, rfl⟩ := List.mem_map.mp hd
        obtain ⟨q, h1, h2, _⟩ := form p (sub p hp)
        exact ⟨q, h1, h2⟩
      · rintro ⟨q, hq, rfl⟩
        have hm : stgD q ∈ ks.map Prod.fst := by rw [ek]; exact List.mem_map_of_mem hq
        obtain ⟨p, hp, e⟩ := List.mem_map.mp hm
        rw [← e]
        exact sup p hp
    have ndD := pm2.nodup_iff.mpr nd
    rw [h2] at ndD memD
    have gl0 : J l = none := by
      by_cases c : l = s
      · rw [c, upd_same] at gl
        cases gl
      · rwa [upd_ne c] at gl
    refine k l _ ms _ gl0 s8 upd_same (h1.keep (TupK.grow (Grow.of_same s8))) (List.Pairwise.of_map stgD (fun _ _ ne e => ne (congrArg stgD e)) ndD) fun x => ?_
    constructor
    · intro hx
      obtain ⟨q, hq, e⟩ := (memD _).mp (List.mem_map_of_mem hx)
      rw [stgD_inj e]
      exact hq
    · intro hx
      obtain ⟨q, hq, e⟩ := List.mem_map.mp ((memD _).mpr ⟨x, hx, rfl⟩)
      rw [← stgD_inj e]
      exact hq

/-! ### askers are small -/
theorem ask_small {s : Int} {x : Str} {named asked : Int} (hs : 0 < s) (n0 : 0 ≤ named) (n1 : named < s) : ∀ y, askN s x named asked = some y → 0 ≤ y ∧ y < s := by
  intro y h
  unfold askN at h
  split at h
  · cases h
  · split at h
    · cases h
      exact ⟨n0, n1⟩
    · cases h
      exact ⟨fmod_lo hs, fmod_hi hs⟩
theorem next_small {s : Int} {row : Row} {named asked name m : Int} (hr : RowOf m row) (hm : m ≤ 100) (hs : 0 < s) (s4 : s ≤ 4) (n0 : 0 ≤ named) (n1 : named < s) (a0 : -1 ≤ asked) (a1 : asked < s) (k0 : 0 ≤ name) (k1 : name < s) :
    (nextA s row named asked name).1.natAbs ≤ 1000 ∧ (nextA s row named asked name).2.1.natAbs ≤ 1000 ∧ (nextA s row named asked name).2.2.natAbs ≤ 1000 := by
  obtain ⟨_, r0, r1, r2, r3⟩ := hr
  unfold nextA
  cases e : askN s row.1 named asked with
  | none => exact ⟨by show row.2.1.natAbs ≤ 1000; omega, by show named.natAbs ≤ 1000; omega, by show asked.natAbs ≤ 1000; omega⟩
  | some y =>
    obtain ⟨y0, y1⟩ := ask_small hs n0 n1 y e
    by_cases en : name = asked
    · simp only [en, if_true]
      exact ⟨by omega, by omega, by omega⟩
    · simp only [en, if_false]
      exact ⟨by omega, by omega, by omega⟩
theorem next_in {s : Int} {row : Row} {named asked name m : Int} (hr : RowOf m row) (hs : 0 < s) (n0 : 0 ≤ named) (n1 : named < s) (a0 : -1 ≤ asked) (a1 : asked < s) (k0 : 0 ≤ name) (k1 : name < s) :
    (0 ≤ (nextA s row named asked name).1 ∧ (nextA s row named asked name).1 < m) ∧ (0 ≤ (nextA s row named asked name).2.1 ∧ (nextA s row named asked name).2.1 < s) ∧ -1 ≤ (nextA s row named asked name).2.2 ∧ (nextA s row named asked name).2.2 < s := by
  obtain ⟨_, r0, r1, r2, r3⟩ := hr
  unfold nextA
  cases e : askN s row.1 named asked with
  | none => exact ⟨⟨r0, r1⟩, ⟨n0, n1⟩, a0, a1⟩
  | some y =>
    obtain ⟨y0, y1⟩ := ask_small hs n0 n1 y e
    by_cases en : name = asked
    · simp only [en, if_true]
      exact ⟨⟨r2, r3⟩, ⟨by omega, by omega⟩, by omega, y1⟩
    · simp only [en, if_false]
      exact ⟨⟨r0, r1⟩, ⟨k0, k1⟩, by omega, y1⟩

/-! ### what stands ahead are heads -/
theorem heads_in {ns : List Int} {m g : Nat} (ml : m < ns.length) {x : Int} (h : x ∈ headsI ns m g) : x ∈ ns := by
  obtain ⟨j, _, rfl⟩ := List.mem_map.mp h
  rw [List.getD_eq_getElem?_getD, List.getElem?_eq_getElem (by omega)]
  exact List.getElem_mem _
theorem ahead_mem {s k : Int} {l : List Int} (h : k ∈ ahead s l) : k ∈ l := let ⟨_, hi, _⟩ := mem_ahead.mp h; List.mem_of_getElem? hi

/-! ### where a standing can lead, by the law's own look: the objects kept -/
theorem answ_four {z : Int} {row : Row} {named asked : Int} {hs : List Int} {as : List (Int × Int × Int)} (z4 : z ≤ 4) (inH : InZ z hs) (h : AnswOf z row named asked hs as) : as.length ≤ 4 := by
  unfold AnswOf at h
  split at h
  · rw [h, List.length_singleton]; decide
  · obtain ⟨out, so, _, rfl⟩ := h
    rw [List.length_map]
    have nd : out.Nodup := so.1.imp fun {a b} h e => by rw [e] at h; exact absurd h (Int.lt_irrefl _)
    have zz := List.Nodup.length_le_of_subset nd (l₂ := (List.range z.toNat).map (fun i : Nat => (i : Int))) fun x hx => by
      have := inH x (ahead_mem ((so.2 x).mp hx))
      exact List.mem_map.mpr ⟨x.toNat, List.mem_range.mpr (by omega), by omega⟩
    rw [List.length_map, List.length_range] at zz
    omega
def sp_lgoes18 (K : PySem.W.Frag) : Sp := fun vs H Q _ => ∃ (th sd : Addr) (t : V) (z r g : Int) (rs : List Row) (st : Stg) (row : Row), vs = [.ref th, t, .ref sd] ∧ SqT K H th [.int z, .int r, .int g] ∧ Dp K H t (tableD rs) ∧ StgAt K H (.ref sd) st ∧ OkS z r g rs st ∧ rs[st.2.2.1.toNat]? = some row ∧ deedOk row.1 ∧ 2 ≤ z ∧ z ≤ 4 ∧ 0 ≤ g ∧ g ≤ 3 ∧
  ∀ (l : Addr) (ys : List V) (ss : List Stg) (J : Hp), H l = none → Grow H J → J l = some (.lst ys) → StgsAt K J ys ss → ss.Nodup → (∀ s, s ∈ ss ↔ s ∈ nxS z r rs st) → Q (.ref l) J
section
variable {P : Program} {w : World} {K : PySem.W.Frag} {mg : Str → Option Value} {base : Heap}
theorem ok_lgoes18 (T : Txt K mg) : FnOk P w K mg base CX0 4 T.a_goes T.d_goes ["_law_house_here", "_law_table_here", "_law_standing"] (sp_lgoes18 K) := by
  have G_asked : FnOk P w K mg base CX0 1 T.a_asked T.d_asked ["_law_house_here", "_law_table_here", "_law_asker"] (sp_lasked K) := ok_lasked T
  have G_later : FnOk P w K mg base CX0 2 T.a_later T.d_later ["_law_house_here", "_law_table_here", "_law_asker", "_law_name"] (sp_later K) := ok_later T
  have G_said : FnOk P w K mg base CX0 1 T.a_said T.d_said ["_law_heads_here", "_law_server"] (sp_said K) := ok_said T
  have G_on : FnOk P w K mg base CX0 3 T.a_on T.d_on ["_law_house_here", "_law_heads_here", "_law_hold_here"] (sp_lon38 K) := ok_on38 T
  refine T.F_goes.ok sc_goes (fun vs H Q E h => ?_) (fun cdv A outer st0 H vs Q E hr h => ?_)
  · obtain ⟨th, sd, t, z, r, g, rs, st, row, rfl, _⟩ := h
    rfl
  · obtain ⟨th, sd, t, z, r, g, rs, ⟨hs, u, i0, named, asked⟩, row, rfl, hth, ht, ⟨sd', hd, ad, esd, hsd, hhd, had⟩, ⟨lh, inH, ⟨u0, u1⟩, ⟨i0p, i1p⟩, ⟨n0, nz⟩, _⟩, hrow, hdeed, z2, z4, g0, g3, k⟩ := h
    cases esd
    dsimp only at hsd hhd had lh inH u0 u1 i0p i1p n0 nz hrow
    have l0 : 0 < hs.length := by omega
    have l60 : hs.length < 60 := by omega
    refine ⟨_, (pss_cons (ps_asg (pv 2) (pg_tup (by rfl) (pgs_cons (pg_name (i := 3) sc_goes.nd rfl (Or.inl rfl)) (pgs_cons (pg_name (i := 4) sc_goes.nd rfl (Or.inl rfl)) (pgs_cons (pg_name (i := 5) sc_goes.nd rfl (Or.inl rfl)) pgs_nil)))))
      (pss_cons (ps_set (i := 6) sc_goes.nd rfl (Or.inl rfl) (pe_call G_asked (hr.mono (by omega)) (by rfl) T.g_asked T.F_asked.kp T.b_asked .nil pass0 (pa_cons (pv 0) (pa_cons (pv 1) (pa_cons (pv 5) pa_nil)))))
      (pss_cons (ps_set (i := 7) sc_goes.nd rfl (Or.inl rfl) (pe_lst pa_nil))
      (pss_cons (ps_for PassesOwn.never rfl (pi_tup (pe_ifExp (pt_cmpR op_eq (pv 6) (pe_un un_neg pe_int) (nomark _)) (pe_tup (pa_cons (pe_un un_neg pe_int) pa_nil)) (pe_call G_said (hr.mono (by omega)) (by rfl) T.g_said T.F_said.kp T.b_said .nil pass0 (pa_cons (pv 3) (pa_cons (pv 6) pa_nil))))) (pg_name (i := 8) sc_goes.nd rfl (Or.inl rfl))
        (pss_cons (ps_set (i := 9) sc_goes.nd rfl (Or.inr rfl) (pe_call G_later (hr.mono (by omega)) (by rfl) T.g_later T.F_later.kp T.b_later .nil pass0 (pa_cons (pv 0) (pa_cons (pv 1) (pa_cons (pv 5) (pa_cons (pv 8) pa_nil))))))
      (pss_one (ps_expr (pe_bm PySem.F.plainAttrs_list PySem.F.slot_list_extend PySem.F.type_list_extend mt_extend (pv 7) (pa_cons (pe_lc (own := [("_law_others", 10), ("_law_more", 11)]) (g := gTup K 2 (gCons (gName 10) (gCons (gName 11) gNil))) (by rfl) sc_goes.nd (pi_list (pe_call G_on (hr.mono (by omega)) (by rfl) T.g_on T.F_on.kp T.b_on .nil pass0 (pa_cons (pv 0) (pa_cons (pv 3) (pa_cons (pv 4) pa_nil))))) (blkOk_by (own := [("_law_others", 10), ("_law_more", 11)]) (N := ["_law_house_here", "_law_table_here", "_law_standing", "_law_heads_here", "_law_hold_here", "_law_asker", "_law_server", "_law_found", "_law_name", "_law_later_here", "_law_others", "_law_more"]) (sc := defScope s_goes) (by decide +kernel)) (fun _ _ _ _ _ => (pg_pairK K (i := 10) (j := 11) rfl rfl sc_goes.nd rfl (Or.inl rfl) rfl (Or.inl rfl))) (fun _ _ _ _ _ => pts_nil) (fun _ _ _ _ _ => (pe_tup (pa_cons (pv 10) (pa_cons (pv 11) (pa_cons (pv 9) pa_nil)))))) pa_nil))))))
      (pss_one (ps_ret (pe_callB (id := "sorted") (cr_sortedA rfl (hu64 hr)) (by rfl) T.m_sorted (by decide +kernel) (pa_cons (pe_callTy (T := "set") (cr_setK rfl (hu64 hr)) (by rfl) T.m_set (by decide +kernel) (pa_cons (pv 7) pa_nil)) pa_nil)))))))), ?_⟩
    have dH : Dp K H (.ref th) (houseT z r g) := .tup hth (.cons (.int _) (.cons (.int _) (.cons (.int _) .nil)))
    have dA : Dp K H (.ref ad) (askerD ((i0.toNat : Int), named, asked)) := by
      rw [show ((i0.toNat : Nat) : Int) = i0 by omega]
      exact .tup had (.cons (.int _) (.cons (.int _) (.cons (.int _) .nil)))
    have small := ask_small (x := row.1) (asked := asked) (show 0 < z by omega) n0 nz
    have hne : hs ≠ [] := fun e => by rw [e] at l0; simp at l0
    refine ⟨_, rfl, sd, _, rfl, hsd, rfl, _, _, rfl, _, _, rfl, _, _, rfl, rfl, ?_⟩
    refine ⟨_, rfl, _, rfl, _, rfl, .ref th, t, .ref ad, z, r, g, rs, i0.toNat, named, asked, row, rfl, dH, ht, dA, hrow, hdeed, by omega, ?_⟩
    refine ⟨Nat.zero_le _, fun F hF => ?_⟩
    have GF : Grow H (upd H F (.lst [])) := Grow.new hF
    have hF1 : (upd H F (.lst [])) F = some (.lst []) := upd_same
    have hd1 : FrzT (upd H F (.lst [])) hd (hs.map V.int) := hhd.growZ GF
    show gName 7 (V.ref F) ([some (V.ref th), some t, some (V.ref sd), some (V.ref hd), some (V.int u), some (V.ref ad), some (V.int ((askN z row.1 named asked).getD (-1))), none, none, none, none, none] : L2.St) (upd H F (.lst [])) _
    generalize upd H F (.lst []) = H1 at GF hF1 hd1 ⊢
    refine gName_in ?_
    dsimp only
    refine tSeq_in ?_
    refine for_tif (fun q J => ∃ NL : List Int, Same H1 J ∧ SqT K J q (NL.map V.int) ∧ AnswOf z row named asked hs (NL.map (nextA z row named asked))) ?_ ?_
    rotate_left
    · rintro tn J ⟨NL, SJ, htn, ans⟩
      have GJ := GF.trans (Grow.of_same SJ)
      have hFJ := SJ _ _ hF1
      have l4 := answ_four z4 inH ans
      rw [List.length_map] at l4
      refine ⟨⟨_, htn⟩, ?_⟩
      refine for_it (walk_tup (K := K) (a := tn) (xs := NL.map V.int)) (fun j σ M => ∃ (y8 y9 y10 y11 : Option V) (vs : List V) (FS : List Stg), σ = [some (V.ref th), some t, some (V.ref sd), some (V.ref hd), some (V.int u), some (V.ref ad), some (V.int ((askN z row.1 named asked).getD (-1))), some (.ref F), y8, y9, y10, y11] ∧ Grow H M ∧ SqT K M tn (NL.map V.int) ∧ M F = some (.lst vs) ∧ vs.length ≤ 5 * j ∧ StgsAt K M vs FS ∧ (∀ s, s ∈ FS ↔ ∃ p ∈ turnsK z r hs u, ∃ a ∈ (NL.take j).map (nextA z row named asked), s = (p.1, p.2, a))) ⟨_, _, _, _, [], [], rfl, GJ, htn, hFJ, Nat.le_refl _, .nil, fun d => ⟨fun h => absurd h List.not_mem_nil, fun ⟨p, _, a, ha, _⟩ => absurd ha (by simp)⟩⟩ (fun j σ M _ ⟨_, _, _, _, _, _, _, _, h, _⟩ => h) ?_ ?_
      · rintro j x σ M M' hj ⟨y8, y9, y10, y11, vs, FS, rfl, GM, htnM, hFM, lv, dv, mem⟩ ⟨rfl, hx⟩
        rw [List.getElem?_map] at hx
        obtain ⟨nm, hnm, rfl⟩ := Option.map_eq_some_iff.mp hx
        have jlt : j < NL.length := (List.getElem?_eq_some_iff.mp hnm).1
        refine ⟨_, rfl, _, rfl, _, rfl, _, rfl, .ref th, t, .ref ad, z, r, g, rs, i0.toNat, named, asked, nm, row, rfl, growDp GM _ _ dH, growDp GM _ _ ht, growDp GM _ _ dA, hrow, hdeed, by omega, fun q hq => ?_⟩
        have Sq : Same M' (upd M' q (.tup [.int (nextA z row named asked nm).1, .int (nextA z row named asked nm).2.1, .int (nextA z row named asked nm).2.2])) := same_new hq
        have Q1 : (upd M' q (.tup [.int (nextA z row named asked nm).1, .int (nextA z row named asked nm).2.1, .int (nextA z row named asked nm).2.2])) q = some (.tup [.int (nextA z row named asked nm).1, .int (nextA z row named asked nm).2.1, .int (nextA z row named asked nm).2.2]) := upd_same
        obtain ⟨ak, eak⟩ : ∃ ak, nextA z row named asked nm = ak := ⟨_, rfl⟩
        have et : (NL.take (j + 1)).map (nextA z row named asked) = (NL.take j).map (nextA z row named asked) ++ [ak] := by rw [List.take_add_one, hnm, List.map_append, ← eak]; rfl
        show gName 9 (V.ref q) _ (upd M' q (.tup [.int (nextA z row named asked nm).1, .int (nextA z row named asked nm).2.1, .int (nextA z row named asked nm).2.2])) _
        rw [eak] at Sq Q1 ⊢
        generalize upd M' q (.tup [.int ak.1, .int ak.2.1, .int ak.2.2]) = M1 at Sq Q1 ⊢
        have hFM1 := Sq _ _ hFM
        have G1 := GM.trans (Grow.of_same Sq)
        refine ⟨_, rfl, .inl ⟨rfl, _, SqL.of hFM1⟩, ?_⟩
        refine ⟨_, rfl, _, rfl, _, rfl, th, hd, z, r, g, u, hs, rfl, G1.tup hth, G1.tup hhd.sq, l0, l60, inH, z2, z4, u0, fun l xs ls N SN hl dx nls lx memd => ?_⟩
        have G2 := G1.trans (Grow.of_same SN)
        have hFN := SN _ _ hFM1
        refine ⟨l, rfl, ⟨_, SqL.of hl⟩, fun D hD => ?_⟩
        have lds := wds_len dx
        have FD' : F ≠ D := ne_of_none hFN hD
        refine lc_list (K := K) (a := l) (xs := xs) (fun m L => ∃ (ws : List V) (ES : List Stg), Grow N L ∧ L D = some (.lst ws) ∧ ws.length = m ∧ StgsAt K L ws ES ∧ (∀ s, s ∈ ES ↔ ∃ p ∈ ls.take m, s = (p.1, p.2, ak))) ⟨[], [], Grow.new hD, upd_same, rfl, .nil, fun d => ⟨fun h => absurd h List.not_mem_nil, fun ⟨p, h, _⟩ => absurd h (by simp)⟩⟩ (fun m L _ ⟨_, _, gL, _⟩ => SqL.of (gL.at hl)) ?_ ?_
        · rintro m v L hv ⟨ws, ES, GL, hL, lw, dw, memE⟩
          obtain ⟨p, hp, dx0⟩ := wds_nth dx hv
          obtain ⟨b2, c2, rfl, hb2, hc2⟩ := dx0.grow GL
          have mlt : m < xs.length := (List.getElem?_eq_some_iff.mp hv).1
          refine ⟨b2, _, rfl, hb2, rfl, _, _, rfl, _, _, rfl, rfl, ?_⟩
          refine ⟨rfl, ?_⟩
          unfold tYes
          refine iteT ⟨_, rfl, _, rfl, _, rfl, by show 3 ≤ sizeLine; decide, fun t3 ht3 => ?_⟩
          have S3 : Grow L (upd L t3 (.tup [.ref c2, .int p.2, .ref q])) := Grow.new ht3
          have T3 : (upd L t3 (.tup [.ref c2, .int p.2, .ref q])) t3 = some (.tup [.ref c2, .int p.2, .ref q]) := upd_same
          show ∃ acc, (upd L t3 (.tup [.ref c2, .int p.2, .ref q])) D = _ ∧ _
          generalize upd L t3 (.tup [.ref c2, .int p.2, .ref q]) = L3 at S3 T3 ⊢
          have hL3 := S3.at hL
          have q3 : SqT K L3 q [.int ak.1, .int ak.2.1, .int ak.2.2] := S3.tup (GL.tup ((Grow.of_same SN).tup (SqT.of Q1)))
          have dn : StgAt K L3 (.ref t3) (p.1, p.2, ak) := ⟨t3, c2, q, rfl, SqT.of T3, hc2.growZ S3, q3⟩
          have kL := TupK.lst (o := .lst (ws ++ [.ref t3])) hL3
          refine ⟨ws, hL3, Nat.lt_of_lt_of_le (by omega : ws.length < 1000) (by decide), ws ++ [.ref t3], ES ++ [(p.1, p.2, ak)], (GL.trans S3).write hD, upd_same, by rw [List.length_append, List.length_singleton, lw], ((dw.keep (TupK.grow S3)).keep kL).app (.cons (dn.keep kL) .nil), fun d => ?_⟩
          rw [List.mem_append, List.mem_singleton, memE, List.take_add_one, hp]
          constructor
          · rintro (⟨p', h1, h2⟩ | rfl)
            · exact ⟨p', List.mem_append_left _ h1, h2⟩
            · exact ⟨p, List.mem_append_right _ (List.mem_singleton.mpr rfl), rfl⟩
          · rintro ⟨p', h1, h2⟩
            rcases List.mem_append.mp h1 with h1 | h1
            · exact .inl ⟨p', h1, h2⟩
            · rw [List.mem_singleton.mp h1] at h2
              exact .inr h2
        · rintro L ⟨ws, ES, GL, hL, lw, dw, memE⟩
          rw [lds, List.take_length] at memE
          have hFL := GL.at hFN
          refine ⟨F, D, vs, ws, rfl, rfl, hFL, hL, Nat.le_trans (by omega : vs.length + ws.length ≤ 400) (by decide), ?_⟩
          have G3 := (Grow.of_same SN).trans GL
          have kL := TupK.lst (o := .lst (vs ++ ws)) hFL
          have dvL := dv.keep (TupK.grow ((Grow.of_same Sq).trans G3))
          refine ⟨_, _, _, _, vs ++ ws, FS ++ ES, rfl, (G2.trans GL).write hF, kL.tup ((((Grow.of_same Sq).trans G3)).tup htnM), upd_same, by rw [List.length_append]; omega, (dvL.keep kL).app (dw.keep kL), fun d => ?_⟩
          rw [List.mem_append, mem, memE, et]
          constructor
          · rintro (⟨p, h1, a, h2, h3⟩ | ⟨p, h1, h3⟩)
            · exact ⟨p, h1, a, List.mem_append_left _ h2, h3⟩
            · exact ⟨p, (memd p).mp h1, ak, List.mem_append_right _ (List.mem_singleton.mpr rfl), h3⟩
          · rintro ⟨p, h1, a, h2, h3⟩
            rcases List.mem_append.mp h2 with h2 | h2
            · exact .inl ⟨p, h1, a, h2, h3⟩
            · rw [List.mem_singleton.mp h2] at h3
              exact .inr ⟨p, (memd p).mpr h1, h3⟩
      · rintro σ M ⟨y8, y9, y10, y11, vs, FS, rfl, GM, htnM, hFM, lv, dv, mem⟩
        rw [List.length_map, List.take_length] at mem
        have ln : (NL.map V.int).length = NL.length := List.length_map ..
        rw [ln] at lv
        have lfs := paired_length dv
        refine ⟨_, rfl, ?_⟩
        unfold tNil
        show rSetK K w [V.ref F] M _
        refine stgs_sortedA (n := hs.length) (SqL.of hFM) dv (by omega) (fun s hs' => ?_) fun l ys ms L l0 SL hl pr nd memS => ?_
        · obtain ⟨p, hp, a, _, rfl⟩ := (mem s).mp hs'
          exact turnsK_len15 hne hp
        · refine k l ys ms L (GM.free l0) (GM.trans (Grow.of_same SL)) hl pr nd fun s => ?_
          rw [memS, mem]
          unfold nxS
          dsimp only
          rw [hrow]
          dsimp only
          rw [(List.mergeSort_perm _ leS).mem_iff, ← answ_is inH ans, mem_prodS]
    · intro Qd kd
      refine ⟨_, rfl, 1, rfl, rfl, _, rfl, ?_⟩
      cases ea : askN z row.1 named asked with
      | none =>
        refine iteT ⟨1, rfl, by show 1 ≤ sizeLine; decide, fun q hq => kd q _ ⟨[-1], same_new hq, SqT.of upd_same, ?_⟩⟩
        unfold AnswOf
        rw [ea]
        simp only [List.map_cons, List.map_nil]
        unfold nextA
        rw [ea]
      | some sv =>
        obtain ⟨s0, sz⟩ := small sv ea
        rw [show ((some sv : Option Int)).getD (-1) = sv from rfl]
        rw [decide_eq_false (show ¬ V.int sv = V.int (-1) by intro e; have := V.int.inj e; omega)]
        refine iteF ⟨_, rfl, _, rfl, hd, sv, hs, rfl, hd1, l60, fun out q J so SJ hq => kd q J ⟨out, SJ, SqT.of hq, ?_⟩⟩
        unfold AnswOf
        rw [ea]
        refine ⟨out, so, ?_, rfl⟩
        have nd : out.Nodup := so.1.imp fun {a b} h e => by rw [e] at h; exact absurd h (Int.lt_irrefl _)
        have zz := List.Nodup.length_le_of_subset nd (l₂ := (List.range z.toNat).map (fun i : Nat => (i : Int))) fun x hx => by
          have := inH x (ahead_mem ((so.2 x).mp hx))
          exact List.mem_map.mpr ⟨x.toNat, List.mem_range.mpr (by omega), by omega⟩
        rw [List.length_map, List.length_range] at zz
        omega
end

/-! ### all standings, by the law's own look -/
/-- the key's object too -/
def KeyO (K : PySem.W.Frag) (H : Hp) (L : Memo) : Prop := ∀ q ∈ L, ∀ s, q.1 = stgD s → StgAt K H (.ref q.2.1) s
theorem KeyO.keep {K : PySem.W.Frag} {H J : Hp} {L : Memo} (k : TupK H J) (h : KeyO K H L) : KeyO K J L := fun q hq s e => (h q hq s e).keep k
theorem KeyO.put {K : PySem.W.Frag} {H : Hp} {L M : Memo} {s : Stg} {b : Addr} {v : V} (h : KeyO K H L) (hb : StgAt K H (.ref b) s) (m : PutD L (stgD s) b v M) : KeyO K H M := by
  rcases m with ⟨_, rfl⟩ | ⟨_, rfl⟩
  · intro q hq t e
    rcases List.mem_append.mp hq with hq | hq
    · exact h q hq t e
    · rw [List.mem_singleton.mp hq] at e ⊢
      rw [← stgD_inj e]
      exact hb
  · intro q hq t e
    obtain ⟨p, hp, rfl⟩ := List.mem_map.mp hq
    by_cases c : keyOf p.1 = keyOf (stgD s)
    · rw [if_pos c] at e ⊢
      exact h p hp t e
    · rw [if_neg c] at e ⊢
      exact h p hp t e
theorem StgsAt.take {K : PySem.W.Frag} {H : Hp} : ∀ {vs : List V} {ls : List Stg} (n : Nat), StgsAt K H vs ls → StgsAt K H (vs.take n) (ls.take n)
  | _, _, 0, _ => by rw [List.take_zero, List.take_zero]; exact .nil
  | _, _, _ + 1, .nil => .nil
  | _, _, n + 1, .cons r t => .cons r (StgsAt.take n t)
def LLeadV (K : PySem.W.Frag) (z r : Int) (rs : List Row) (H : Hp) (s : Stg) (v : V) : Prop := ∃ (l : Addr) (ys : List V) (ts : List Stg), v = .ref l ∧ H l = some (.lst ys) ∧ StgsAt K H ys ts ∧ ts.Nodup ∧ ∀ x, x ∈ ts ↔ x ∈ nxS z r rs s
theorem LLeadV.keep {K : PySem.W.Frag} {z r : Int} {rs : List Row} {H J : Hp} {s : Stg} {v : V} (k : TupK H J) (e : ∀ l ys, v = .ref l → H l = some (.lst ys) → J l = some (.lst ys)) (h : LLeadV K z r rs H s v) : LLeadV K z r rs J s v := let ⟨l, ys, ts, a, b, c, d⟩ := h; ⟨l, ys, ts, a, e l ys a b, c.keep k, d⟩
/-- all standings that can be come to, and where they lead: lists -/
structure LLeads (K : PySem.W.Frag) (w : World) (z r g : Int) (rs : List Row) (H : Hp) (D : Addr) (L : Memo) (ss : List Stg) : Prop where
  d : H D = some (DictKO w D L)
  v : DicS K (LLeadV K z r rs H) H L ss
  o : KeyO K H L
  n : ss.Nodup
  m : ∀ s, s ∈ ss ↔ RchS z r g rs s
theorem LLeads.grow {K : PySem.W.Frag} {w : World} {z r g : Int} {rs : List Row} {H J : Hp} {D : Addr} {L : Memo} {ss : List Stg} (h : LLeads K w z r g rs H D L ss) (gr : Grow H J) : LLeads K w z r g rs J D L ss :=
  ⟨gr.at h.d (fun q => dictKO_ne fun _ z => by cases z), h.v.mono (TupK.grow gr) fun s _ v q => q.keep (TupK.grow gr) fun l ys _ e => gr.at e, h.o.keep (TupK.grow gr), h.n, h.m⟩
def sp_lreach (K : PySem.W.Frag) (w : World) : Sp := fun vs H Q _ => ∃ (th : Addr) (t : V) (z r g : Int) (rs : List Row), vs = [.ref th, t] ∧ SqT K H th [.int z, .int r, .int g] ∧ Dp K H t (tableD rs) ∧ Both z r g rs ∧
  ∀ (D : Addr) (L : Memo) (ss : List Stg) (J : Hp), Grow H J → LLeads K w z r g rs J D L ss → Q (.ref D) J
theorem stgs_lay (ss : List Stg) : SeqAt.shaped (.list (ss.map stgD)) = true := by
  have h1 : PyData.canLayAll0 (ss.map stgD) = true := by
    induction ss with
    | nil => simp only [List.map_nil, PyData.canLayAll0]
    | cons q l ih => simp only [List.map_cons, PyData.canLayAll0, stgD, askerD, PyData.canLay0, ints_lay, ih, Bool.and_self]
  have h2 : PyData.depthAll (ss.map stgD) ≤ 3 := depthAll_le.mpr fun d hd => by
    obtain ⟨s, _, rfl⟩ := List.mem_map.mp hd
    exact stg_deep s
  have h4 : PyData.depth (.list (ss.map stgD)) ≤ 64 := by simp only [PyData.depth]; omega
  have h5 : PyData.canLay0 (.list (ss.map stgD)) = true := by simp only [PyData.canLay0, h1]
  exact Bool.and_eq_true_iff.mpr ⟨h5, decide_eq_true h4⟩
theorem list_nil18 (ds : List PyData) : PyData.eqv (.list ds) (.list []) = ds.isEmpty := by cases ds <;> simp [PyData.eqv, PyData.eqvAll]
section
variable {P : Program} {w : World} {K : PySem.W.Frag} {mg : Str → Option Value} {base : Heap}
theorem ok_lreach18 (T : Txt K mg) : FnOk P w K mg base CX0 5 T.a_reached T.d_reached ["_law_house_here", "_law_table_here"] (sp_lreach K w) := by
  have G_l_firsts : FnOk P w K mg base CX0 2 T.a_l_firsts T.d_l_firsts ["_law_house_here"] (sp_lfirsts38 K) := ok_lfirsts38 T
  have G_goes : FnOk P w K mg base CX0 4 T.a_goes T.d_goes ["_law_house_here", "_law_table_here", "_law_standing"] (sp_lgoes18 K) := ok_lgoes18 T
  refine T.F_reached.ok sc_reached (fun vs H Q E h => ?_) (fun cdv A outer st0 H vs Q E hr h => ?_)
  · obtain ⟨th, t, z, r, g, rs, rfl, _⟩ := h
    rfl
  · obtain ⟨th, t, z, r, g, rs, rfl, hth, ht, bo, k⟩ := h
    refine ⟨_, (pss_cons (ps_par (i := 2) (j := 3) (by rfl) sc_reached.nd rfl rfl (by decide) rfl rfl (pa_cons pe_nnew (pa_cons (pe_lc (own := [("_law_heads_here", 4), ("_law_hold_here", 5)]) (g := gTup K 2 (gCons (gName 4) (gCons (gName 5) gNil))) (by rfl) sc_reached.nd (pi_list (pe_call G_l_firsts (hr.mono (by omega)) (by rfl) T.g_l_firsts T.F_l_firsts.kp T.b_l_firsts .nil pass0 (pa_cons (pv 0) pa_nil))) (blkOk_by (own := [("_law_heads_here", 4), ("_law_hold_here", 5)]) (N := ["_law_house_here", "_law_table_here", "_law_found", "_law_waiting", "_law_heads_here", "_law_hold_here", "_law_standing"]) (sc := defScope s_reached) (by decide +kernel)) (fun _ _ _ _ _ => (pg_pairK K (i := 4) (j := 5) rfl rfl sc_reached.nd rfl (Or.inl rfl) rfl (Or.inl rfl))) (fun _ _ _ _ _ => pts_nil) (fun _ _ _ _ _ => (pe_tup (pa_cons (pv 4) (pa_cons (pv 5) (pa_cons (pe_tup (pa_cons pe_int (pa_cons pe_int (pa_cons (pe_un un_neg pe_int) pa_nil)))) pa_nil)))))) pa_nil)) (by rfl))
      (pss_cons (ps_while PassesOwn.never (pt_cmpR (op_neD hr.units) (pv 3) (pe_lst pa_nil) (nomark _))
        (pss_cons (ps_set (i := 6) sc_reached.nd rfl (Or.inl rfl) (pe_bm0 PySem.F.plainAttrs_list PySem.F.slot_list_pop PySem.F.type_list_pop mt_pop (pv 3)))
      (pss_one (ps_if (pt_cmp (pc_nnotin (hu64 hr) (pv 6) (pv 2)))
        (pss_cons (ps_nput (hu64 hr) (pv 2) (pv 6) (pe_call G_goes (hr.mono (by omega)) (by rfl) T.g_goes T.F_goes.kp T.b_goes .nil pass0 (pa_cons (pv 0) (pa_cons (pv 1) (pa_cons (pv 6) pa_nil)))) (by rfl))
      (pss_one (ps_expr (pe_bm PySem.F.plainAttrs_list PySem.F.slot_list_extend PySem.F.type_list_extend mt_extend (pv 3) (pa_cons (pe_nget (hu64 hr) (pv 2) (pv 6) (fun _ _ => rfl)) pa_nil)))))
        pss_nil))))
      (pss_one (ps_ret (pv 2))))), ?_⟩
    obtain ⟨z2, z4, r1, r6, g0, g3, _⟩ := bo.h
    intro D hD
    have G0 : Grow H (upd H D (DictKO w D [])) := Grow.new hD
    have D0 : (upd H D (DictKO w D [])) D = some (DictKO w D []) := upd_same
    show tCons _ _ _ (upd H D (DictKO w D [])) _
    generalize upd H D (DictKO w D []) = J0 at G0 D0 ⊢
    refine ⟨_, rfl, th, z, r, g, rfl, G0.tup hth, bo.h, fun l us ms J1 S1 hl pw ndm memm => ?_⟩
    have G1 := Grow.of_same S1
    have inF : ∀ s : Stg, s ∈ ms.map (fun p => ((p.1, p.2, (0, 0, -1)) : Stg)) ↔ s ∈ firstsS z r g := fun s => by
      unfold firstsS
      rw [(List.mergeSort_perm _ leS).mem_iff, List.mem_map, List.mem_map]
      constructor
      · rintro ⟨p, hp, rfl⟩
        obtain ⟨ns, hns, rfl⟩ := (memm p).mp hp
        exact ⟨ns, hns, rfl⟩
      · rintro ⟨ns, hns, rfl⟩
        exact ⟨(ns.reverse, holdI r ns), (memm _).mpr ⟨ns, hns, rfl⟩, rfl⟩
    have ndF : (ms.map fun p => ((p.1, p.2, (0, 0, -1)) : Stg)).Nodup := List.Pairwise.map _ (fun a b ne e => ne (Prod.ext (congrArg (fun q : Stg => q.1) e) (congrArg (fun q : Stg => q.2.1) e))) ndm
    have l81 : (ms.map fun p => ((p.1, p.2, (0, 0, -1)) : Stg)).length ≤ 81 := Nat.le_trans (List.Nodup.length_le_of_subset ndF fun s hs => (inF s).mp hs) (firstsS_len bo.h)
    have m81 := l81
    rw [List.length_map] at m81
    refine ⟨l, rfl, ⟨_, SqL.of hl⟩, fun Rl hRl => ?_⟩
    refine lc_list (K := K) (a := l) (xs := us) (fun i G => ∃ ws : List V, Grow J1 G ∧ G Rl = some (.lst ws) ∧ StgsAt K G ws ((ms.take i).map fun p => (p.1, p.2, (0, 0, -1)))) ⟨[], Grow.new hRl, upd_same, ?_⟩ (fun i G _ ⟨_, gr, _⟩ => SqL.of (gr.at hl)) ?_ ?_
    · rw [List.take_zero]
      exact .nil
    · rintro i x G hx ⟨ws, gr, hR, sw⟩
      obtain ⟨p, hp, px⟩ := wds_nth pw hx
      obtain ⟨b2, c2, rfl, hb2, hc2⟩ := px.grow gr
      have tk : ms.take (i + 1) = ms.take i ++ [p] := by rw [List.take_add_one, hp]; rfl
      refine ⟨b2, _, rfl, hb2, rfl, _, _, rfl, _, _, rfl, rfl, ?_⟩
      refine ⟨rfl, ?_⟩
      unfold tYes
      refine iteT ⟨_, rfl, _, rfl, ?_⟩
      refine ⟨1, rfl, by show 3 ≤ sizeLine; decide, fun p1 hp1 => ?_⟩
      have S1' : Grow G (upd G p1 (.tup [.int 0, .int 0, .int (-1)])) := Grow.new hp1
      have P1 : (upd G p1 (.tup [.int 0, .int 0, .int (-1)])) p1 = some (.tup [.int 0, .int 0, .int (-1)]) := upd_same
      show (_ : Hp → Prop) (upd G p1 (.tup [.int 0, .int 0, .int (-1)]))
      generalize upd G p1 (.tup [.int 0, .int 0, .int (-1)]) = G2 at S1' P1 ⊢
      refine ⟨by show 3 ≤ sizeLine; decide, fun p2 hp2 => ?_⟩
      have S2' : Grow G2 (upd G2 p2 (.tup [.ref c2, .int p.2, .ref p1])) := Grow.new hp2
      have P2 : (upd G2 p2 (.tup [.ref c2, .int p.2, .ref p1])) p2 = some (.tup [.ref c2, .int p.2, .ref p1]) := upd_same
      show ∃ acc, (upd G2 p2 (.tup [.ref c2, .int p.2, .ref p1])) Rl = _ ∧ _
      generalize upd G2 p2 (.tup [.ref c2, .int p.2, .ref p1]) = G3 at S2' P2 ⊢
      have S3 := S1'.trans S2'
      have hR3 := S3.at hR
      have dn : StgAt K G3 (.ref p2) (p.1, p.2, (0, 0, -1)) := ⟨p2, c2, p1, rfl, SqT.of P2, hc2.growZ S3, S2'.tup (SqT.of P1)⟩
      have kL := TupK.lst (o := .lst (ws ++ [.ref p2])) hR3
      have lw := paired_length sw
      rw [List.length_map, List.length_take] at lw
      refine ⟨ws, hR3, Nat.lt_of_le_of_lt (by omega : ws.length ≤ 81) (by decide), ws ++ [.ref p2], (gr.trans S3).write hRl, upd_same, ?_⟩
      rw [tk, List.map_append]
      exact ((sw.keep (TupK.grow S3)).keep kL).app (.cons (dn.keep kL) .nil)
    · rintro G ⟨ws, gr, hR, sw⟩
      rw [wds_len pw, List.take_length] at sw
      refine ⟨_, _, rfl, ?_⟩
      have G01 := G0.trans G1
      have G2 := G01.trans gr
      have hRlH : H Rl = none := G01.free hRl
      have D2 := (G1.trans gr).at D0 (fun q => dictKO_ne fun _ z => by cases z)
      refine ⟨fun m σ J => ∃ (y6 : Option V) (ws : List V) (ss ys : List Stg) (L : Memo), σ = [some (.ref th), some t, some (.ref D), some (.ref Rl), none, none, y6] ∧ Grow H J ∧ J D = some (DictKO w D L) ∧ DicS K (fun s v => LLeadV K z r rs J s v ∧ v ≠ .ref Rl) J L ss ∧ KeyO K J L ∧ J Rl = some (.lst ws) ∧ StgsAt K J ws ys ∧ ss.Nodup ∧ (∀ s ∈ ss, RchS z r g rs s) ∧ (∀ s ∈ ys, RchS z r g rs s) ∧ (∀ s ∈ firstsS z r g, s ∈ ss ∨ s ∈ ys) ∧ (∀ s ∈ ss, ∀ t ∈ nxS z r rs s, t ∈ ss ∨ t ∈ ys) ∧ ys.length ≤ 81 + 20 * ss.length ∧ m = (60000 - ss.length) * 21 + ys.length, ⟨_, none, ws, [], _, [], rfl, G2, D2, .nil, fun q hq => absurd hq List.not_mem_nil, hR, sw, .nil, fun s hs => absurd hs List.not_mem_nil, fun s hs => .first ((inF s).mp hs), fun s hs => .inr ((inF s).mpr hs), fun s hs => absurd hs List.not_mem_nil, by omega, rfl⟩, ?_⟩
      clear G2 D2 hR sw gr G01
      rintro m σ J ⟨y6, ws, ss, ys, L, rfl, G, hD1, dv, ko, hR, dw, nd, rss, rys, hF, hN, few, rfl⟩
      have lw := paired_length dw
      refine ⟨_, rfl, by show 0 ≤ sizeLine; decide, fun En hEn => ?_⟩
      have gE : Grow J (upd J En (.lst [])) := Grow.new hEn
      have hE1 : (upd J En (.lst [])) En = some (.lst []) := upd_same
      have dv := dv.mono (F' := fun s v => LLeadV K z r rs (upd J En (.lst [])) s v ∧ v ≠ .ref Rl) (TupK.grow gE) fun s _ v q => ⟨q.1.keep (TupK.grow gE) fun l ys _ e => gE.at e, q.2⟩
      have ko := ko.keep (TupK.grow gE)
      have G := G.trans gE
      have hD1 := gE.at hD1 (fun q => dictKO_ne fun _ z => by cases z)
      have hR := gE.at hR
      have dw := dw.keep (TupK.grow gE)
      show rNeD _ _ _ (upd J En (.lst [])) _
      generalize upd J En (.lst []) = J2 at gE hE1 dv ko G hD1 hR dw ⊢
      clear gE hEn
      refine ⟨.list (ys.map stgD), .list [], .lst (SqL.of hR) dw.dps, .lst (SqL.of hE1) .nil, stgs_lay _, by decide, _, rfl, ?_⟩
      rw [list_nil18]
      refine ite2 (fun hq => ?_) (fun hq => ?_)
      · have pos : 0 < ys.length := by
          cases ys with
          | nil => exact absurd hq (by decide)
          | cons => exact Nat.succ_pos _
        obtain ⟨y, hy⟩ : ∃ y, ys[ys.length - 1]? = some y := ⟨_, List.getElem?_eq_getElem (by omega)⟩
        obtain ⟨v, hv⟩ : ∃ v, ws[ws.length - 1]? = some v := ⟨_, List.getElem?_eq_getElem (by omega)⟩
        obtain ⟨y', hdy, dvy⟩ := dw.nth hv
        rw [lw, hy] at hdy
        cases hdy
        have ey : ys = ys.dropLast ++ [y] := by
          have ne : ys ≠ [] := fun e => by rw [e] at pos; cases pos
          have := List.dropLast_concat_getLast ne
          rw [List.getLast_eq_getElem] at this
          rw [List.getElem?_eq_getElem (by omega)] at hy
          rw [Option.some.inj hy] at this
          exact this.symm
        have hYin : y ∈ ys := List.mem_of_getElem? hy
        have dw1 : StgsAt K J2 ws.dropLast ys.dropLast := by
          rw [List.dropLast_eq_take, List.dropLast_eq_take, lw]
          exact dw.take _
        refine ⟨fun σ' J' => ∃ m', m' < (60000 - ss.length) * 21 + ys.length ∧ _, fun σ' J' h => h, ?_⟩
        refine ⟨_, rfl, .inl ⟨rfl, _, SqL.of hR⟩, Rl, ws, v, rfl, rfl, hR, hv, ?_⟩
        have kA : TupK J2 (upd J2 Rl (.lst ws.dropLast)) := TupK.lst hR
        have GA : Grow H (upd J2 Rl (.lst ws.dropLast)) := G.write hRlH
        have hRA : (upd J2 Rl (.lst ws.dropLast)) Rl = some (.lst ws.dropLast) := upd_same
        have hDA : (upd J2 Rl (.lst ws.dropLast)) D = some (DictKO w D L) := by rw [upd_ne (ne_of hD1 hR (dictKO_ne fun _ z => by cases z))]; exact hD1
        have dvA := dv.mono (F' := fun s v => LLeadV K z r rs (upd J2 Rl (.lst ws.dropLast)) s v ∧ v ≠ .ref Rl) kA fun s _ v q => ⟨q.1.keep kA fun l ys e1 e2 => by rw [upd_ne (fun e => q.2 (by rw [e1, e]))]; exact e2, q.2⟩
        show gName 6 v _ (upd J2 Rl (.lst ws.dropLast)) _
        generalize upd J2 Rl (.lst ws.dropLast) = JA at kA GA hRA hDA dvA ⊢
        have dyA := dvy.keep kA
        have dwA := dw1.keep kA
        have koA := ko.keep kA
        clear dv ko hR dw dvy dw1 hD1 hE1 kA
        have lA : ws.dropLast.length = ys.dropLast.length := by rw [List.length_dropLast, List.length_dropLast, lw]
        have lY : ys.dropLast.length + 1 = ys.length := by rw [List.length_dropLast]; omega
        obtain ⟨yb, yc, ye, rfl, sb, sc, se⟩ := id dyA
        have okY := RchS.ok bo (rys y hYin)
        have rest : ∀ s ∈ ys.dropLast, RchS z r g rs s := fun s hs => rys s (List.dropLast_subset _ hs)
        have split : ∀ s, s ∈ ys ↔ s ∈ ys.dropLast ∨ s = y := fun s => by
          rw [ey, List.dropLast_concat, List.mem_append, List.mem_singleton]
        refine ⟨_, rfl, _, rfl, D, L, yb, stgD y, rfl, rfl, hDA, dvA.keys, IsKeyAt.stg dyA.dp, fun c hc => ⟨c, rfl, ite2 (fun e => ?_) (fun e => ?_)⟩⟩
        · have nin : y ∉ ss := fun h => hc.mp e (dvA.mem.mpr h)
          have i0 := okY.2.2.2.1
          have hrow : rs[y.2.2.1.toNat]? = some rs[y.2.2.1.toNat] := List.getElem?_eq_getElem (by omega)
          refine ⟨_, rfl, _, rfl, _, rfl, th, yb, t, z, r, g, rs, y, _, rfl, GA.tup hth, growDp GA _ _ ht, dyA, okY, hrow, (bo.t _ (List.getElem_mem _)).1, z2, z4, g0, g3, fun lt zs us JB lt0 GB hlt dus ndu memu => ?_⟩
          have dyB := dyA.keep (TupK.grow GB)
          have dvB := dvA.mono (F' := fun s v => LLeadV K z r rs JB s v ∧ v ≠ .ref Rl) (TupK.grow GB) fun s _ v q => ⟨q.1.keep (TupK.grow GB) fun l ys _ e => GB.at e, q.2⟩
          have dwB := dwA.keep (TupK.grow GB)
          have koB := koA.keep (TupK.grow GB)
          have hDB := GB.at hDA (fun q => dictKO_ne fun _ z => by cases z)
          have hRB := GB.at hRA
          have lss : ss.length + 1 ≤ 60000 := by
            have := few_stgs bo (ss := y :: ss) (List.nodup_cons.mpr ⟨nin, nd⟩) fun s hs => by
              rcases List.mem_cons.mp hs with rfl | hs
              · exact RchS.ok bo (rys _ hYin)
              · exact RchS.ok bo (rss s hs)
            rwa [List.length_cons] at this
          have neR : lt ≠ Rl := fun e => by rw [e, hRA] at lt0; cases lt0
          refine ⟨_, rfl, _, rfl, D, L, yb, stgD y, rfl, rfl, hDB, dvB.keys, IsKeyAt.stg dyB.dp, Nat.lt_of_le_of_lt (by have := dvB.len; omega : L.length ≤ 100000) (by decide), fun M hM => ?_⟩
          have kC : TupK JB (upd JB D (DictKO w D M)) := TupK.dict hDB
          have GC : Grow H (upd JB D (DictKO w D M)) := (GA.trans GB).write hD
          have hDC : (upd JB D (DictKO w D M)) D = some (DictKO w D M) := upd_same
          have lst : ∀ (l : Addr) (ys : List V), JB l = some (.lst ys) → (upd JB D (DictKO w D M)) l = some (.lst ys) := fun l ys e => by rw [upd_ne (ne_of e hDB (fun z => dictKO_ne (fun _ z => by cases z) z.symm))]; exact e
          have hRC := lst _ _ hRB
          have hltC := lst _ _ hlt
          have dvC0 := dvB.mono (F' := fun s v => LLeadV K z r rs (upd JB D (DictKO w D M)) s v ∧ v ≠ .ref Rl) kC fun s _ v q => ⟨q.1.keep kC fun l ys _ e => lst l ys e, q.2⟩
          show (_ : Hp → Prop) (upd JB D (DictKO w D M))
          generalize upd JB D (DictKO w D M) = JC at kC GC hDC hRC hltC lst dvC0 ⊢
          have dyC := dyB.keep kC
          have dusC := dus.keep kC
          have hlv : LLeadV K z r rs JC y (.ref lt) ∧ V.ref lt ≠ V.ref Rl := ⟨⟨lt, zs, us, rfl, hltC, dusC, ndu, memu⟩, fun e => neR (V.ref.inj e)⟩
          have dvC := dvC0.new nin dyC.dp hlv hM
          have koC := (koB.keep kC).put dyC hM
          have dwC := dwB.keep kC
          obtain ⟨eb, ev, hin, ⟨lt2, zs2, us2, rfl, hlt2, dus2, ndu2, memu2⟩, ne2⟩ := dvC.get (s := y) (List.mem_append_right _ (List.mem_singleton.mpr rfl))
          have lnx := nxS_len (z := z) (r := r) (g := g) (rs := rs) (s := y) z2 z4
          have lus2 := paired_length dus2
          have lus3 := List.Nodup.length_le_of_subset ndu2 (l₂ := nxS z r rs y) fun x hx => (memu2 x).mp hx
          refine ⟨_, rfl, .inl ⟨rfl, _, SqL.of hRC⟩, _, rfl, _, rfl, D, M, yb, stgD y, eb, .ref lt2, rfl, rfl, hDC, dvC.keys, IsKeyAt.stg dyC.dp, hin, Rl, lt2, ws.dropLast, zs2, rfl, rfl, hRC, hlt2, Nat.le_trans (by omega : ws.dropLast.length + zs2.length ≤ 2000000) (by decide), ?_⟩
          have kD : TupK JC (upd JC Rl (.lst (ws.dropLast ++ zs2))) := TupK.lst hRC
          have GD : Grow H (upd JC Rl (.lst (ws.dropLast ++ zs2))) := GC.write hRlH
          have hRD : (upd JC Rl (.lst (ws.dropLast ++ zs2))) Rl = some (.lst (ws.dropLast ++ zs2)) := upd_same
          have hDD : (upd JC Rl (.lst (ws.dropLast ++ zs2))) D = some (DictKO w D M) := by rw [upd_ne (ne_of hDC hRC (dictKO_ne fun _ z => by cases z))]; exact hDC
          have dvD := dvC.mono (F' := fun s v => LLeadV K z r rs (upd JC Rl (.lst (ws.dropLast ++ zs2))) s v ∧ v ≠ .ref Rl) kD fun s _ v q => ⟨q.1.keep kD fun l ys e1 e2 => by rw [upd_ne (fun e => q.2 (by rw [e1, e]))]; exact e2, q.2⟩
          show (_ : Hp → Prop) (upd JC Rl (.lst (ws.dropLast ++ zs2)))
          generalize upd JC Rl (.lst (ws.dropLast ++ zs2)) = JD at kD GD hRD hDD dvD ⊢
          refine ⟨(60000 - (ss ++ [y]).length) * 21 + (ys.dropLast ++ us2).length, ?_, _, ws.dropLast ++ zs2, ss ++ [y], ys.dropLast ++ us2, M, rfl, GD, hDD, dvD, koC.keep kD, hRD, (dwC.keep kD).app (dus2.keep kD), ?_, ?_, ?_, ?_, ?_, ?_, rfl⟩
          · rw [List.length_append, List.length_append, List.length_singleton]
            omega
          · rw [List.nodup_append]
            exact ⟨nd, by simp, fun a ha b hb => by rw [List.mem_singleton.mp hb]; exact fun e => nin (e ▸ ha)⟩
          · intro s hs
            rcases List.mem_append.mp hs with hs | hs
            · exact rss s hs
            · rw [List.mem_singleton.mp hs]
              exact rys y hYin
          · intro s hs
            rcases List.mem_append.mp hs with hs | hs
            · exact rest s hs
            · exact .step (rys y hYin) ((memu2 s).mp hs)
          · intro s hs
            rcases hF s hs with h | h
            · exact .inl (List.mem_append_left _ h)
            · rcases (split s).mp h with h | h
              · exact .inr (List.mem_append_left _ h)
              · exact .inl (by rw [h]; exact List.mem_append_right _ (List.mem_singleton.mpr rfl))
          · intro s hs u hu
            rcases List.mem_append.mp hs with hs | hs
            · rcases hN s hs u hu with h | h
              · exact .inl (List.mem_append_left _ h)
              · rcases (split u).mp h with h | h
                · exact .inr (List.mem_append_left _ h)
                · exact .inl (by rw [h]; exact List.mem_append_right _ (List.mem_singleton.mpr rfl))
            · rw [List.mem_singleton.mp hs] at hu
              exact .inr (List.mem_append_right _ ((memu2 u).mpr hu))
          · rw [List.length_append, List.length_append, List.length_singleton]
            omega
        · have yin : y ∈ ss := Classical.byContradiction fun n => e (hc.mpr fun h => n (dvA.mem.mp h))
          refine ⟨(60000 - ss.length) * 21 + ys.dropLast.length, by omega, _, ws.dropLast, ss, ys.dropLast, L, rfl, GA, hDA, dvA, koA, hRA, dwA, nd, rss, rest, fun s hs => ?_, fun s hs u hu => ?_, by omega, rfl⟩
          · rcases hF s hs with h | h
            · exact .inl h
            · rcases (split s).mp h with h | h
              · exact .inr h
              · exact .inl (by rw [h]; exact yin)
          · rcases hN s hs u hu with h | h
            · exact .inl h
            · rcases (split u).mp h with h | h
              · exact .inr h
              · exact .inl (by rw [h]; exact yin)
      · have e0 : ys = [] := by
          cases ys with
          | nil => rfl
          | cons => exact absurd rfl hq
        refine ⟨_, rfl, ?_⟩
        refine k D L ss J2 G ⟨hD1, dv.mono (TupK.refl _) fun s _ v q => q.1, ko, nd, fun s => ⟨rss s, fun hs => ?_⟩⟩
        have all : ∀ s, s ∉ ys := fun s => by rw [e0]; exact List.not_mem_nil
        induction hs with
        | first hs => exact (hF _ hs).resolve_right (all _)
        | step _ ht ih => exact (hN _ ih _ ht).resolve_right (all _)
end

/-! ### the numbers of the standings, by the law's own look -/
theorem DicS.of_mem {K : PySem.W.Frag} {F : Stg → V → Prop} {H : Hp} {L : Memo} {ss : List Stg} {q : PyData × Addr × V} (h : DicS K F H L ss) (hq : q ∈ L) : ∃ s ∈ ss, q.1 = stgD s ∧ Dp K H (.ref q.2.1) (stgD s) ∧ F s q.2.2 := by
  obtain ⟨i, hi⟩ := List.mem_iff_getElem?.mp hq
  obtain ⟨s, hs, e⟩ := h.nth hi
  exact ⟨s, List.mem_of_getElem? hs, e⟩
theorem stgs_alike {n : Nat} : ∀ (ts us : List Stg), (∀ x ∈ ts, x.1.length = n) → (∀ x ∈ us, x.1.length = n) → PySem.W.alikeAll (ts.map stgD) (us.map stgD) = true
  | [], _, _, _ => by rw [List.map_nil]; unfold PySem.W.alikeAll; rfl
  | _ :: _, [], _, _ => by rw [List.map_nil, List.map_cons]; unfold PySem.W.alikeAll; rfl
  | x :: ts, y :: us, h1, h2 => by
    rw [List.map_cons, List.map_cons]
    unfold PySem.W.alikeAll
    rw [stg_alike ((h1 x List.mem_cons_self).trans (h2 y List.mem_cons_self).symm), stgs_alike ts us (fun a b => h1 a (List.mem_cons_of_mem _ b)) fun a b => h2 a (List.mem_cons_of_mem _ b)]
    rfl
theorem leads_vals {K : PySem.W.Frag} {z r : Int} {rs : List Row} {H : Hp} {n : Nat} : ∀ {L : Memo} {ss : List Stg}, DicS K (LLeadV K z r rs H) H L ss → (∀ s ∈ ss, ∀ x ∈ nxS z r rs s, x.1.length = n) → ∃ es : List PyData, DpAll K H (L.map fun q => q.2.2) es ∧ ∀ e ∈ es, ∃ ts : List Stg, e = .list (ts.map stgD) ∧ ∀ x ∈ ts, x.1.length = n
  | _, _, .nil, _ => ⟨[], .nil, fun e he => absurd he List.not_mem_nil⟩
  | _, _, .cons (a := q) (b := s) r t, hn => by
    obtain ⟨es, h1, h2⟩ := leads_vals t fun u hu => hn u (List.mem_cons_of_mem _ hu)
    obtain ⟨_, _, l, ys, ts, e1, e2, e3, e4, e5⟩ := r
    refine ⟨.list (ts.map stgD) :: es, ?_, fun e he => ?_⟩
    · rw [List.map_cons]
      refine .cons ?_ h1
      rw [e1]
      exact .lst (SqL.of e2) e3.dps
    · rcases List.mem_cons.mp he with rfl | he
      · exact ⟨ts, rfl, fun x hx => hn s List.mem_cons_self x ((e5 x).mp hx)⟩
      · exact h2 e he
theorem items_stgs {L : Memo} {MM : List ((PyData × Addr × V) × Addr)} {ss : List Stg} (e : L.map Prod.fst = ss.map stgD) (pm : (MM.map Prod.fst).Perm L) : ∃ ps : List Stg, Paired (fun (m : (PyData × Addr × V) × Addr) (s : Stg) => m.1 ∈ L ∧ m.1.1 = stgD s) MM ps ∧ ps.Perm ss := by
  have hL : ∀ m ∈ MM, m.1 ∈ L ∧ m.1.1 = stgD (unS m.1.1) := fun m hm => by
    have h1 : m.1 ∈ L := pm.mem_iff.mp (List.mem_map_of_mem hm)
    have h2 : m.1.1 ∈ ss.map stgD := by rw [← e]; exact List.mem_map_of_mem h1
    obtain ⟨s, _, e2⟩ := List.mem_map.mp h2
    exact ⟨h1, by rw [← e2, unS_stg]⟩
  refine ⟨MM.map fun m => unS m.1.1, ?_, ?_⟩
  · clear pm
    induction MM with
    | nil => exact .nil
    | cons m MM ih => exact .cons (hL m List.mem_cons_self) (ih fun x hx => hL x (List.mem_cons_of_mem _ hx))
  · have h1 := pm.map (fun q : PyData × Addr × V => unS q.1)
    rw [List.map_map] at h1
    have h2 : L.map (fun q : PyData × Addr × V => unS q.1) = ss := by
      have : L.map (fun q : PyData × Addr × V => unS q.1) = (L.map Prod.fst).map unS := by rw [List.map_map]; rfl
      rw [this, e, List.map_map]
      have : (unS ∘ stgD) = id := funext fun s => unS_stg s
      rw [this, List.map_id]
    rw [h2] at h1
    exact h1
def sp_lnum (K : PySem.W.Frag) (w : World) : Sp := fun vs H Q _ => ∃ (th : Addr) (t : V) (z r g : Int) (rs : List Row), vs = [.ref th, t] ∧ SqT K H th [.int z, .int r, .int g] ∧ Dp K H t (tableD rs) ∧ Both z r g rs ∧
  ∀ (X : Addr) (M : Memo) (os : List Stg) (J : Hp), Grow H J → J X = some (DictKO w X M) → DicS K (ValV (nxS z r rs) fun _ => 1) J M os → KeyO K J M → os.Nodup → (∀ s, s ∈ os ↔ RchS z r g rs s ∧ Srv (nxS z r rs) s) → Q (.ref X) J
section
variable {P : Program} {w : World} {K : PySem.W.Frag} {mg : Str → Option Value} {base : Heap}
theorem ok_lnum18 (T : Txt K mg) : FnOk P w K mg base CX0 6 T.a_numbers T.d_numbers ["_law_house_here", "_law_table_here"] (sp_lnum K w) := by
  have G_reached : FnOk P w K mg base CX0 5 T.a_reached T.d_reached ["_law_house_here", "_law_table_here"] (sp_lreach K w) := ok_lreach18 T
  refine T.F_numbers.ok sc_numbers (fun vs H Q E h => ?_) (fun cdv A outer st0 H vs Q E hr h => ?_)
  · obtain ⟨th, t, z, r, g, rs, rfl, _⟩ := h
    rfl
  · obtain ⟨th, t, z, r, g, rs, rfl, hth, ht, bo, k⟩ := h
    refine ⟨_, (pss_cons (ps_asg (pe_tup (pa_cons (pe_call G_reached (hr.mono (by omega)) (by rfl) T.g_reached T.F_reached.kp T.b_reached .nil pass0 (pa_cons (pv 0) (pa_cons (pv 1) pa_nil))) (pa_cons pe_nnew (pa_cons pe_int (pa_cons (pe_lst (pa_cons pe_non pa_nil)) pa_nil))))) (pg_tup (by rfl) (pgs_cons (pg_name (i := 2) sc_numbers.nd rfl (Or.inl rfl)) (pgs_cons (pg_name (i := 3) sc_numbers.nd rfl (Or.inr rfl)) (pgs_cons (pg_name (i := 4) sc_numbers.nd rfl (Or.inl rfl)) (pgs_cons (pg_name (i := 5) sc_numbers.nd rfl (Or.inl rfl)) pgs_nil))))))
      (pss_cons (ps_while PassesOwn.never (pt_cmpR (op_neD hr.units) (pv 5) (pe_lst pa_nil) (nomark _))
        (pss_cons (ps_set (i := 4) sc_numbers.nd rfl (Or.inl rfl) (pe_op op_add (pv 4) pe_int))
      (pss_cons (ps_set (i := 5) sc_numbers.nd rfl (Or.inl rfl) (pe_lst pa_nil))
      (pss_cons (ps_for PassesOwn.never rfl (pi_list (pe_callB (id := "sorted") (cr_sortIt rfl (hu64 hr)) (by rfl) T.m_sorted (by decide +kernel) (pa_cons (pe_itemsV (pv 2)) pa_nil))) (pg_tup (by rfl) (pgs_cons (pg_name (i := 6) sc_numbers.nd rfl (Or.inl rfl)) (pgs_cons (pg_name (i := 7) sc_numbers.nd rfl (Or.inl rfl)) pgs_nil)))
        (pss_one (ps_if (PW.pt (pw_and (pt_cmp (pc_nnotin (hu64 hr) (pv 6) (pv 3))) (pw_and1 (pt_cmpR (op_eqD hr.units) (pe_lc (own := [("_law_later_here", 8)]) (g := gName 8) (by rfl) sc_numbers.nd (pi_list (pv 7)) (blkOk_by (own := [("_law_later_here", 8)]) (N := ["_law_house_here", "_law_table_here", "_law_ways", "_law_found", "_law_number_here", "_law_fresh", "_law_standing", "_law_some", "_law_later_here"]) (sc := defScope s_numbers) (by decide +kernel)) (fun _ _ _ _ _ => (pg_name (i := 8) sc_numbers.nd rfl (Or.inl rfl))) (fun _ _ _ _ _ => (pts_one (pt_cmp (pc_nnotinK K w rfl rfl (hu64 hr) (pv 8) (pv 3))))) (fun _ _ _ _ _ => (pv 8))) (pe_lst pa_nil) (nomark _)))))
        (pss_one (ps_expr (pe_bm PySem.F.plainAttrs_list PySem.F.slot_list_append PySem.F.type_list_append mt_append (pv 5) (pa_cons (pv 6) pa_nil))))
        pss_nil)))
      (pss_one (ps_for PassesOwn.never rfl (pi_list (pv 5)) (pg_name (i := 6) sc_numbers.nd rfl (Or.inl rfl))
        (pss_one (ps_nput (hu64 hr) (pv 3) (pv 6) (pv 4) (by rfl)))))))))
      (pss_one (ps_ret (pv 3))))), ?_⟩
    obtain ⟨z2, z4, r1, r6, g0, g3, _⟩ := bo.h
    refine ⟨_, rfl, _, rfl, th, t, z, r, g, rs, rfl, hth, ht, bo, fun W L ss J0 G0 lw => ?_⟩
    intro X hX
    have few : ss.length ≤ 60000 := few_stgs bo lw.n fun s hs => RchS.ok bo ((lw.m s).mp hs)
    have closed : ∀ s ∈ ss, ∀ t ∈ nxS z r rs s, t ∈ ss := fun s hs t ht => (lw.m t).mpr (.step ((lw.m s).mp hs) ht)
    have lens : ∀ s ∈ ss, (s.1.length : Int) = g + 1 := fun s hs => (RchS.ok bo ((lw.m s).mp hs)).1
    have G1 : Grow J0 (upd J0 X (DictKO w X [])) := Grow.new hX
    have X1 : (upd J0 X (DictKO w X [])) X = some (DictKO w X []) := upd_same
    show tCons _ _ _ (upd J0 X (DictKO w X [])) _
    generalize upd J0 X (DictKO w X []) = J1 at G1 X1 ⊢
    refine ⟨by show 1 ≤ sizeLine; decide, fun N0 hN0 => ?_⟩
    have gN : Grow J1 (upd J1 N0 (.lst [.non])) := Grow.new hN0
    have G2 := G1.trans gN
    have X2 := gN.at X1 (fun q => dictKO_ne fun _ z => by cases z)
    have N2 : (upd J1 N0 (.lst [.non])) N0 = some (.lst [.non]) := upd_same
    show tNil _ (upd J1 N0 (.lst [.non])) _
    generalize upd J1 N0 (.lst [.non]) = J2 at G2 X2 N2 gN ⊢
    clear gN G1 X1 hN0
    refine ⟨by show 4 ≤ sizeLine; decide, fun P0 hP0 => ?_⟩
    have gP : Grow J2 (upd J2 P0 (.tup [.ref W, .ref X, .int 0, .ref N0])) := Grow.new hP0
    have G3 := G2.trans gP
    have X3 := gP.at X2 (fun q => dictKO_ne fun _ z => by cases z)
    have N3 := gP.at N2
    have P3 : (upd J2 P0 (.tup [.ref W, .ref X, .int 0, .ref N0])) P0 = some (.tup [.ref W, .ref X, .int 0, .ref N0]) := upd_same
    show gTup _ _ _ _ _ (upd J2 P0 (.tup [.ref W, .ref X, .int 0, .ref N0])) _
    generalize upd J2 P0 (.tup [.ref W, .ref X, .int 0, .ref N0]) = J3 at G3 X3 N3 P3 ⊢
    clear gP G2 X2 N2 hP0
    refine ⟨P0, _, rfl, SqT.of P3, rfl, _, _, rfl, _, _, rfl, _, _, rfl, _, _, rfl, rfl, ?_⟩
    refine ⟨fun m σ J => ∃ (y6 y7 : Option V) (n : Nat) (F : Addr) (fd : List PyData) (M : Memo) (os : List Stg), σ = [some (.ref th), some t, some (.ref W), some (.ref X), some (.int (n : Int)), some (.ref F), y6, y7, none] ∧ Grow J0 J ∧ J X = some (DictKO w X M) ∧ DicS K (ValV (nxS z r rs) fun _ => 1) J M os ∧ KeyO K J M ∧ os.Nodup ∧ (∀ s, s ∈ os ↔ s ∈ ss ∧ Rk (nxS z r rs) n s) ∧ Dp K J (.ref F) (.list fd) ∧ SeqAt.shaped (.list fd) = true ∧ (fd = [] → ∀ s ∈ ss, Srv (nxS z r rs) s → s ∈ os) ∧ m = 2 * (ss.length - os.length) + (if fd = [] then 0 else 1), ⟨_, none, none, 0, N0, [.none], [], [], rfl, G3, X3, .nil, fun q hq => absurd hq List.not_mem_nil, .nil, fun s => ⟨fun h => absurd h List.not_mem_nil, fun h => h.2.elim⟩, .lst (SqL.of N3) (.cons .non .nil), by decide, (fun e => by cases e), rfl⟩, ?_⟩
    clear G3 X3 N3 P3
    rintro m σ J ⟨y6, y7, n, F, fd, M, os, rfl, G, XJ, vM, kM, ndo, mo, dF, sF, fin, rfl⟩
    refine ⟨_, rfl, by show 0 ≤ sizeLine; decide, fun En hEn => ?_⟩
    have gE : Grow J (upd J En (.lst [])) := Grow.new hEn
    have hE1 : (upd J En (.lst [])) En = some (.lst []) := upd_same
    have G := G.trans gE
    have XJ := gE.at XJ (fun q => dictKO_ne fun _ z => by cases z)
    have vM := vM.mono (F' := ValV (nxS z r rs) fun _ => 1) (TupK.grow gE) fun s _ v q => q
    have kM := kM.keep (TupK.grow gE)
    have dF := growDp gE _ _ dF
    show rNeD _ _ _ (upd J En (.lst [])) _
    generalize upd J En (.lst []) = J2 at gE hE1 G XJ vM kM dF ⊢
    clear gE hEn
    refine ⟨.list fd, .list [], dF, .lst (SqL.of hE1) .nil, sF, by decide, _, rfl, ?_⟩
    rw [list_nil18]
    refine ite2 (fun hq => ?_) (fun hq => ?_)
    · have ne : fd ≠ [] := fun e => by rw [e] at hq; exact absurd hq (by decide)
      rw [if_neg ne]
      clear dF sF fin hE1 hq ne
      refine ⟨fun σ' J' => ∃ m', m' < 2 * (ss.length - os.length) + 1 ∧ _, fun σ' J' h => h, ?_⟩
      refine ⟨_, rfl, _, _, rfl, rfl, ?_⟩
      refine ⟨by show 0 ≤ sizeLine; decide, fun F1 hF1 => ?_⟩
      have hF0 : J0 F1 = none := G.free hF1
      have gF : Grow J2 (upd J2 F1 (.lst [])) := Grow.new hF1
      have hF2 : (upd J2 F1 (.lst [])) F1 = some (.lst []) := upd_same
      have G := G.trans gF
      have XJ := gF.at XJ (fun q => dictKO_ne fun _ z => by cases z)
      have vM := vM.mono (F' := ValV (nxS z r rs) fun _ => 1) (TupK.grow gF) fun s _ v q => q
      have kM := kM.keep (TupK.grow gF)
      show gName 5 (V.ref F1) _ (upd J2 F1 (.lst [])) _
      generalize upd J2 F1 (.lst []) = J3 at hF2 G XJ vM kM gF ⊢
      clear gF hF1
      have lwJ := lw.grow G
      obtain ⟨es, des, esf⟩ := leads_vals (n := (g + 1).toNat) lwJ.v fun s hs x hx => by
        have := lens x (closed s hs x hx)
        omega
      refine ⟨_, rfl, W, L, rfl, lwJ.d, fun V1 hV1 => ?_⟩
      have gV : Grow J3 (upd J3 V1 (ViewO V1 W)) := Grow.new hV1
      have hV2 : (upd J3 V1 (ViewO V1 W)) V1 = some (ViewO V1 W) := upd_same
      have hFV := gV.at hF2
      have GV := G.trans gV
      have XV := gV.at XJ (fun q => dictKO_ne fun _ z => by cases z)
      have vV := vM.mono (F' := ValV (nxS z r rs) fun _ => 1) (TupK.grow gV) fun s _ v q => q
      have kV := kM.keep (TupK.grow gV)
      have lwV := lwJ.grow gV
      have des := growDpAll gV _ _ des
      show tNil _ (upd J3 V1 (ViewO V1 W)) _
      generalize upd J3 V1 (ViewO V1 W) = J4 at hV2 hFV GV XV vV kV lwV des ⊢
      clear gV hV1 lwJ hF2 G XJ vM kM
      refine ⟨V1, W, L, es, rfl, hV2, lwV.d, lwV.v.keys, des, fun p hp q hq => ?_, fun e he => ?_, fun Y MM J5 pmM G5 hY0 hY prs => ?_⟩
      · obtain ⟨p1, p2⟩ := List.of_mem_zip hp
        obtain ⟨q1, q2⟩ := List.of_mem_zip hq
        obtain ⟨s1, hs1, e1, _⟩ := lwV.v.of_mem p1
        obtain ⟨s2, hs2, e2, _⟩ := lwV.v.of_mem q1
        obtain ⟨t1, f1, l1⟩ := esf _ p2
        obtain ⟨t2, f2, l2⟩ := esf _ q2
        have b1 := lens s1 hs1
        have b2 := lens s2 hs2
        refine ⟨by rw [e1, e2]; exact stg_alike (by omega), ?_⟩
        rw [f1, f2]
        unfold PySem.W.alike
        exact stgs_alike t1 t2 l1 l2
      · obtain ⟨t1, f1, _⟩ := esf _ he
        rw [f1]
        have : PyData.depthAll (t1.map stgD) ≤ 3 := depthAll_le.mpr fun d hd => by
          obtain ⟨s, _, rfl⟩ := List.mem_map.mp hd
          exact stg_deep s
        simp only [PyData.depth]
        omega
      · have gK := G5
        have hF5 := G5.at hFV
        have GJ5 := GV.trans G5
        have X5 := G5.at XV (fun q => dictKO_ne fun _ z => by cases z)
        have v5 := vV.mono (F' := ValV (nxS z r rs) fun _ => 1) (TupK.grow G5) fun s _ v q => q
        have k5 := kV.keep (TupK.grow G5)
        have nYF : F1 ≠ Y := ne_of_none hFV hY0
        clear hV2 hFV GV XV vV kV gK des esf
        -- the standings in the order of the walk
        obtain ⟨ps, pps, pperm⟩ : ∃ ps : List Stg, Paired (fun (m : (PyData × Addr × V) × Addr) (s : Stg) => m.1 ∈ L ∧ m.1.1 = stgD s) MM ps ∧ ps.Perm ss := items_stgs lwV.v.fst pmM
        have lps := paired_length pps
        refine ⟨Y, rfl, ⟨_, SqL.of hY⟩, ?_⟩
        refine for_list (K := K) (a := Y) (xs := MM.map fun m => V.ref m.2) (fun i σ N => ∃ (y6 y7 : Option V) (ws : List V), σ = [some (.ref th), some t, some (.ref W), some (.ref X), some (.int ((n : Int) + 1)), some (.ref F1), y6, y7, none] ∧ Grow J0 N ∧ N X = some (DictKO w X M) ∧ DicS K (ValV (nxS z r rs) fun _ => 1) N M os ∧ KeyO K N M ∧ N F1 = some (.lst ws) ∧ StgsAt K N ws ((ps.take i).filter fun s => decide (s ∉ os ∧ ∀ u ∈ nxS z r rs s, u ∈ os)) ∧ N Y = some (.lst (MM.map fun m => V.ref m.2)) ∧ ∀ m ∈ MM, N m.2 = some (.tup [.ref m.1.2.1, m.1.2.2])) ⟨_, _, [], rfl, GJ5, X5, v5, k5, hF5, ?_, hY, prs⟩ (fun i σ N _ ⟨_, _, _, _, _, _, _, _, _, _, h, _⟩ => SqL.of h) ?_ ?_
        · rw [List.take_zero]
          exact .nil
        · clear X5 v5 k5 hF5 hY prs
          rintro i x σ N hx ⟨y6, y7, ws, rfl, GN, XN, vN, kN, hFN, sw, hYN, prN⟩
          rw [List.getElem?_map] at hx
          obtain ⟨m, hm, rfl⟩ := Option.map_eq_some_iff.mp hx
          obtain ⟨s, hs, hmL, ems⟩ := paired_nth pps hm
          have tk : ps.take (i + 1) = ps.take i ++ [s] := by rw [List.take_add_one, hs]; rfl
          have lwN := lw.grow GN
          obtain ⟨s', hs', e1, dk, l, zs, ts, el, hl, sts, ndt, memt⟩ := lwN.v.of_mem hmL
          rw [ems] at e1
          have e1 := stgD_inj e1
          subst e1
          have skN := lwN.o m.1 hmL s ems
          refine ⟨m.2, _, rfl, SqT.of (prN m (List.mem_of_getElem? hm)), rfl, _, _, rfl, _, _, rfl, rfl, ?_⟩
          have lst : ∀ c : Bool, decide (s ∉ os ∧ ∀ u ∈ nxS z r rs s, u ∈ os) = c → (ps.take (i + 1)).filter (fun s => decide (s ∉ os ∧ ∀ u ∈ nxS z r rs s, u ∈ os)) = (ps.take i).filter (fun s => decide (s ∉ os ∧ ∀ u ∈ nxS z r rs s, u ∈ os)) ++ if c = true then [s] else [] := fun c hc => by
            rw [tk, List.filter_append, List.filter_cons, List.filter_nil, hc]
          have lps60 : ps.length ≤ 60000 := by rw [pperm.length_eq]; exact few
          have lws := paired_length sw
          have lfl := List.length_filter_le (fun s => decide (s ∉ os ∧ ∀ u ∈ nxS z r rs s, u ∈ os)) (ps.take i)
          rw [List.length_take] at lfl
          refine ⟨_, rfl, _, rfl, X, M, m.1.2.1, stgD s, rfl, rfl, XN, vN.keys, IsKeyAt.stg dk, fun c hc => ⟨c, rfl, ite2 (fun e => ?_) (fun e => ?_)⟩⟩
          · have snin : s ∉ os := fun h => hc.mp e (vN.mem.mpr h)
            refine ⟨_, rfl, l, el, ⟨_, SqL.of hl⟩, fun Cm hCm => ?_⟩
            refine lc_list (K := K) (a := l) (xs := zs) (fun j G => ∃ us : List V, Grow N G ∧ G Cm = some (.lst us) ∧ StgsAt K G us ((ts.take j).filter fun u => decide (u ∉ os))) ⟨[], Grow.new hCm, upd_same, ?_⟩ (fun j G _ ⟨_, gr, _⟩ => SqL.of (gr.at hl)) ?_ ?_
            · rw [List.take_zero]
              exact .nil
            · rintro j x G hx2 ⟨us, gr, hCG, su⟩
              obtain ⟨u, hu, sx⟩ := sts.nth hx2
              have sx := sx.keep (TupK.grow gr)
              obtain ⟨ub, uc, ue, rfl, _⟩ := id sx
              have tku : ts.take (j + 1) = ts.take j ++ [u] := by rw [List.take_add_one, hu]; rfl
              have vG := vN.mono (F' := ValV (nxS z r rs) fun _ => 1) (TupK.grow gr) fun s _ v q => q
              have lus := paired_length su
              have lf2 := List.length_filter_le (fun u => decide (u ∉ os)) (ts.take j)
              have lts := List.Nodup.length_le_of_subset ndt (l₂ := nxS z r rs s) fun x hx => (memt x).mp hx
              have l20 := nxS_len (z := z) (r := r) (g := g) (rs := rs) (s := s) z2 z4
              rw [List.length_take] at lf2
              refine ⟨rfl, ?_⟩
              refine ⟨_, rfl, _, rfl, X, M, ub, stgD u, rfl, rfl, gr.at XN (fun q => dictKO_ne fun _ z => by cases z), vG.keys, IsKeyAt.stg sx.dp, fun c2 hc2 => ⟨c2, rfl, ?_⟩⟩
              refine ite2 (fun e2 => ?_) (fun e2 => ?_)
              · have un : u ∉ os := fun h => hc2.mp e2 (vG.mem.mpr h)
                have kL := TupK.lst (o := .lst (us ++ [.ref ub])) hCG
                refine ⟨_, rfl, us, hCG, Nat.lt_of_le_of_lt (by omega : us.length ≤ 20) (by decide), us ++ [.ref ub], gr.write hCm, upd_same, ?_⟩
                rw [tku, List.filter_append, List.filter_cons_of_pos (p := fun u => decide (u ∉ os)) (decide_eq_true un), List.filter_nil]
                exact (su.keep kL).app (.cons (sx.keep kL) .nil)
              · have un : u ∈ os := Classical.byContradiction fun h => e2 (hc2.mpr fun q => h (vG.mem.mp q))
                refine ⟨us, gr, hCG, ?_⟩
                rw [tku, List.filter_append, List.filter_cons_of_neg (p := fun u => decide (u ∉ os)) (by rw [decide_eq_true_iff]; exact fun h => h un), List.filter_nil, List.append_nil]
                exact su
            · rintro G ⟨us, gr, hCG, su⟩
              rw [paired_length sts, List.take_length] at su
              refine ⟨by show 0 ≤ sizeLine; decide, fun E2 hE2 => ?_⟩
              have gE : Grow G (upd G E2 (.lst [])) := Grow.new hE2
              have hE3 : (upd G E2 (.lst [])) E2 = some (.lst []) := upd_same
              have g2 := gr.trans gE
              have hC2 := gE.at hCG
              have su2 := su.keep (TupK.grow gE)
              show rEqD _ _ _ (upd G E2 (.lst [])) _
              generalize upd G E2 (.lst []) = G2 at gE hE3 g2 hC2 su2 ⊢
              refine ⟨_, .list [], .lst (SqL.of hC2) su2.dps, .lst (SqL.of hE3) .nil, stgs_lay _, by decide, _, rfl, ?_⟩
              rw [list_nil18]
              have hF2 := g2.at hFN
              have X2 := g2.at XN (fun q => dictKO_ne fun _ z => by cases z)
              have v2 := vN.mono (F' := ValV (nxS z r rs) fun _ => 1) (TupK.grow g2) fun s _ v q => q
              have k2 := kN.keep (TupK.grow g2)
              have sw2 := sw.keep (TupK.grow g2)
              have sk2 := skN.keep (TupK.grow g2)
              have hY2 := g2.at hYN
              have pr2 : ∀ m ∈ MM, G2 m.2 = some (.tup [.ref m.1.2.1, m.1.2.2]) := fun m hm => g2.at (prN m hm)
              have key : (((ts.filter fun u => decide (u ∉ os)).map stgD).isEmpty = true) ↔ ∀ u ∈ nxS z r rs s, u ∈ os := by
                rw [List.isEmpty_iff, List.map_eq_nil_iff, List.filter_eq_nil_iff]
                constructor
                · intro h u hu
                  have := h u ((memt u).mpr hu)
                  rw [decide_eq_true_iff] at this
                  exact Classical.byContradiction this
                · intro h u hu
                  rw [decide_eq_true_iff]
                  exact fun q => q (h u ((memt u).mp hu))
              refine ite2 (fun e3 => ?_) (fun e3 => ?_)
              · have := lst true (decide_eq_true ⟨snin, key.mp e3⟩)
                have kL := TupK.lst (o := .lst (ws ++ [.ref m.1.2.1])) hF2
                refine ⟨_, rfl, .inl ⟨rfl, _, SqL.of hF2⟩, _, rfl, F1, ws, .ref m.1.2.1, rfl, rfl, hF2, Nat.lt_of_le_of_lt (by omega : ws.length ≤ 60000) (by decide), _, _, ws ++ [.ref m.1.2.1], rfl, (GN.trans g2).write hF0, ?_, v2.mono kL fun s _ v q => q, k2.keep kL, upd_same, ?_, ?_, fun m hm => kL.t _ _ (pr2 m hm)⟩
                · rw [upd_ne (ne_of X2 hF2 (dictKO_ne fun _ z => by cases z))]
                  exact X2
                · rw [this, if_pos rfl]
                  exact (sw2.keep kL).app (.cons (sk2.keep kL) .nil)
                · rw [upd_ne nYF.symm]
                  exact hY2
              · have := lst false (decide_eq_false fun h => e3 (key.mpr h.2))
                rw [if_neg Bool.false_ne_true, List.append_nil] at this
                exact ⟨_, _, ws, rfl, GN.trans g2, X2, v2, k2, hF2, by rw [this]; exact sw2, hY2, pr2⟩
          · have sin : s ∈ os := Classical.byContradiction fun h => e (hc.mpr fun q => h (vN.mem.mp q))
            have := lst false (decide_eq_false fun h => h.1 sin)
            rw [if_neg Bool.false_ne_true, List.append_nil] at this
            exact ⟨_, _, ws, rfl, GN, XN, vN, kN, hFN, by rw [this]; exact sw, hYN, prN⟩
        · rintro σ N ⟨y6, y7, ws, rfl, GN, XN, vN, kN, hFN, sw, hYN, prN⟩
          rw [List.length_map, lps, List.take_length] at sw
          have fsnd : (ps.filter fun s => decide (s ∉ os ∧ ∀ u ∈ nxS z r rs s, u ∈ os)).Nodup := (pperm.nodup_iff.mpr lw.n).filter _
          have fsm : ∀ s, s ∈ ps.filter (fun s => decide (s ∉ os ∧ ∀ u ∈ nxS z r rs s, u ∈ os)) ↔ s ∈ ss ∧ s ∉ os ∧ ∀ u ∈ nxS z r rs s, u ∈ os := fun s => by
            rw [List.mem_filter, decide_eq_true_iff, pperm.mem_iff]
          generalize ps.filter (fun s => decide (s ∉ os ∧ ∀ u ∈ nxS z r rs s, u ∈ os)) = fs at sw fsnd fsm
          have nd2 : (os ++ fs).Nodup := List.nodup_append.mpr ⟨ndo, fsnd, fun a ha b hb e => ((fsm b).mp hb).2.1 (e ▸ ha)⟩
          have sub2 : ∀ s ∈ os ++ fs, s ∈ ss := fun s hs => (List.mem_append.mp hs).elim (fun h => ((mo s).mp h).1) fun h => ((fsm s).mp h).1
          have len2 := List.Nodup.length_le_of_subset nd2 (l₂ := ss) sub2
          rw [List.length_append] at len2
          have lws := paired_length sw
          refine ⟨_, rfl, F1, rfl, ⟨_, SqL.of hFN⟩, ?_⟩
          refine for_list (K := K) (a := F1) (xs := ws) (fun j σ N => ∃ (y6 y7 : Option V) (M' : Memo), σ = [some (.ref th), some t, some (.ref W), some (.ref X), some (.int ((n : Int) + 1)), some (.ref F1), y6, y7, none] ∧ Grow J0 N ∧ N X = some (DictKO w X M') ∧ DicS K (ValV (nxS z r rs) fun _ => 1) N M' (os ++ fs.take j) ∧ KeyO K N M' ∧ N F1 = some (.lst ws) ∧ StgsAt K N ws fs) ⟨_, _, M, rfl, GN, XN, ?_, kN, hFN, sw⟩ (fun j σ N _ ⟨_, _, _, _, _, _, _, _, h, _⟩ => SqL.of h) ?_ ?_
          · rw [List.take_zero, List.append_nil]
            exact vN
          · clear GN XN vN kN hFN sw hYN prN
            rintro j x σ N hx ⟨y6, y7, M', rfl, GN, XN, vN, kN, hFN, sw⟩
            obtain ⟨s, hs, sx⟩ := sw.nth hx
            obtain ⟨sb, sc, se, rfl, _⟩ := id sx
            have tk : fs.take (j + 1) = fs.take j ++ [s] := by rw [List.take_add_one, hs]; rfl
            obtain ⟨m1, m2, m3⟩ := (fsm s).mp (List.mem_of_getElem? hs)
            have snin : s ∉ os ++ fs.take j := fun h => by
              rcases List.mem_append.mp h with h | h
              · exact m2 h
              · have := fsnd
                rw [← List.take_append_drop (j + 1) fs, tk, List.append_assoc, List.nodup_append] at this
                exact this.2.2 s h s (List.mem_cons_self) rfl
            have rk1 : Rk (nxS z r rs) (n + 1) s := fun u hu => ((mo u).mp (m3 u hu)).2
            have rk0 : ¬ Rk (nxS z r rs) n s := fun h => m2 ((mo s).mpr ⟨m1, h⟩)
            obtain ⟨v, hv⟩ := Srv.val (c := fun _ => 1) ⟨n + 1, rk1⟩
            have ev : v = (n : Int) + 1 := by
              have a1 := (rk_val hv (n + 1)).mp rk1
              have a2 : ¬ v ≤ (n : Int) := fun h => rk0 ((rk_val hv n).mpr h)
              omega
            have lM := vN.len
            rw [List.length_append, List.length_take] at lM
            refine ⟨_, rfl, _, rfl, _, rfl, X, M', sb, stgD s, rfl, rfl, XN, vN.keys, IsKeyAt.stg sx.dp, Nat.lt_of_le_of_lt (by omega : M'.length ≤ 100000) (by decide), fun M2 hM2 => ?_⟩
            have kT : TupK N (upd N X (DictKO w X M2)) := TupK.dict XN
            refine ⟨_, _, M2, rfl, GN.write hX, upd_same, ?_, (kN.keep kT).put (sx.keep kT) hM2, ?_, sw.keep kT⟩
            · rw [tk, ← List.append_assoc]
              exact (vN.mono (F' := ValV (nxS z r rs) fun _ => 1) kT fun s _ v q => q).new snin (kT.stg sx.dp) ⟨_, rfl, by rw [← ev]; exact hv⟩ hM2
            · rw [upd_ne (ne_of hFN XN (fun z => dictKO_ne (fun _ z => by cases z) z.symm))]
              exact hFN
          · rintro σ N ⟨y6, y7, M', rfl, GN, XN, vN, kN, hFN, sw⟩
            rw [lws, List.take_length] at vN
            have cast : ((n : Int) + 1) = ((n + 1 : Nat) : Int) := by omega
            refine ⟨_, ?_, _, _, n + 1, F1, fs.map stgD, M', os ++ fs, by rw [cast], GN, XN, vN, kN, nd2, fun s => ⟨fun h => ⟨sub2 s h, ?_⟩, fun h => ?_⟩, .lst (SqL.of hFN) sw.dps, stgs_lay _, fun e s hs hv => ?_, rfl⟩
            · rw [List.length_append]
              cases fs with
              | nil => rw [List.map_nil, if_pos rfl, List.length_nil]; omega
              | cons f fs => rw [if_neg (by rw [List.map_cons]; exact List.cons_ne_nil _ _), List.length_cons] at *; omega
            · rcases List.mem_append.mp h with h | h
              · exact ((mo s).mp h).2.up (Nat.le_succ n)
              · exact fun u hu => ((mo u).mp (((fsm s).mp h).2.2 u hu)).2
            · by_cases c : s ∈ os
              · exact List.mem_append_left _ c
              · exact List.mem_append_right _ ((fsm s).mpr ⟨h.1, c, fun u hu => (mo u).mpr ⟨closed s h.1 u hu, h.2 u hu⟩⟩)
            · have e0 : fs = [] := List.map_eq_nil_iff.mp e
              rw [e0, List.append_nil]
              refine srv_order closed (fun s hs h => Classical.byContradiction fun c => ?_) s hs hv
              have := (fsm s).mpr ⟨hs, c, h⟩
              rw [e0] at this
              exact List.not_mem_nil this
    · have e0 : fd = [] := by
        cases fd with
        | nil => rfl
        | cons => exact absurd rfl hq
      exact ⟨_, rfl, k X M os J2 (G0.trans G) XJ vM kM ndo fun s => ⟨fun h => ⟨(lw.m s).mp ((mo s).mp h).1, n, ((mo s).mp h).2⟩, fun h => fin e0 s ((lw.m s).mpr h.1) h.2⟩⟩
end

/-! ### numbers are no greater than there are standings -/
theorem val_pick {α : Type} (nx : α → List α) (c : α → Int) : ∃ f : α → Int, ∀ s, Srv nx s → Val nx c s (f s) := by
  classical
  have h : ∀ s : α, ∃ v : Int, Srv nx s → Val nx c s v := fun s => by
    by_cases h : Srv nx s
    · obtain ⟨v, hv⟩ := h.val (c := c)
      exact ⟨v, fun _ => hv⟩
    · exact ⟨0, fun k => absurd k h⟩
  exact ⟨fun s => Classical.choose (h s), fun s => Classical.choose_spec (h s)⟩
/-- a number is no greater than there are things that can be come to -/
theorem val_few {α : Type} {nx : α → List α} (P : α → Prop) (cl : ∀ s, P s → ∀ t ∈ nx s, P t) : ∀ (n : Nat) (s : α), P s → Val nx (fun _ => 1) s ((n : Int) + 1) → ∃ l : List α, l.length = n + 1 ∧ l.Nodup ∧ ∀ u ∈ l, P u ∧ ∃ m, Val nx (fun _ => 1) u m ∧ m ≤ (n : Int) + 1
  | 0, s, hP, h => ⟨[s], rfl, List.nodup_cons.mpr ⟨List.not_mem_nil, List.nodup_nil⟩, fun u hu => by rw [List.mem_singleton.mp hu]; exact ⟨hP, _, h, Int.le_refl _⟩⟩
  | n + 1, s, hP, h => by
    obtain ⟨f, hf⟩ := val_pick nx (fun _ => 1)
    have hs := Val.step (nx := nx) (c := fun _ => 1) (s := s) (f := f) fun t ht => hf t (srv_iff.mp h.srv t ht)
    have e := h.one hs
    have big : maxL ((nx s).map f) = (n : Int) + 1 := by
      have e' : ((n + 1 : Nat) : Int) + 1 = 1 + maxL ((nx s).map f) := e
      omega
    rcases maxL_mem (l := (nx s).map f) with h0 | hm
    · omega
    · obtain ⟨t, ht, et⟩ := List.mem_map.mp hm
      have vt := hf t (srv_iff.mp h.srv t ht)
      rw [et, big] at vt
      obtain ⟨l, l1, l2, l3⟩ := val_few P cl n t (cl s hP t ht) vt
      refine ⟨s :: l, by rw [List.length_cons, l1], List.nodup_cons.mpr ⟨fun hsl => ?_, l2⟩, fun u hu => ?_⟩
      · obtain ⟨_, m, vm, hm2⟩ := l3 s hsl
        have := h.one vm
        omega
      · rcases List.mem_cons.mp hu with rfl | hu
        · exact ⟨hP, _, h, Int.le_refl _⟩
        · obtain ⟨p1, m, p2, p3⟩ := l3 u hu
          exact ⟨p1, m, p2, by omega⟩

/-! ### stairs -/
theorem GafV.one {z r g : Int} {nx : Stg → List Stg} {co : Stg → Int} {v u : V} (h : GafV z r g nx co v) (k : GafV z r g nx co u) : v = u := by
  rcases h with ⟨rfl, s, hs, hn⟩ | ⟨m, rfl, ha, s, hs, hv⟩ <;> rcases k with ⟨rfl, s', hs', hn'⟩ | ⟨m', rfl, ha', s', hs', hv'⟩
  · rfl
  · obtain ⟨n, h1, _⟩ := ha' s hs
    exact absurd h1.srv hn
  · obtain ⟨n, h1, _⟩ := ha s' hs'
    exact absurd h1.srv hn'
  · obtain ⟨n, h1, h2⟩ := ha' s hs
    obtain ⟨n', h1', h2'⟩ := ha s' hs'
    have e1 := h1.one hv
    have e2 := h1'.one hv'
    congr 1
    omega
theorem gaf_is {z r g : Int} (z2 : 2 ≤ z) (nx : Stg → List Stg) : ∃ v, GafV z r g nx (fun _ => 1) v := by
  by_cases good : ∀ s ∈ firstsS z r g, Srv nx s
  · obtain ⟨f, hf⟩ := val_pick nx (fun _ => 1)
    refine ⟨.int (maxL ((firstsS z r g).map f)), .inr ⟨_, rfl, fun s hs => ⟨f s, hf s (good s hs), maxL_ge.2 _ (List.mem_map_of_mem hs)⟩, ?_⟩⟩
    rcases maxL_mem (l := (firstsS z r g).map f) with h0 | hm
    · cases h : firstsS z r g with
      | nil => exact absurd h (firstsS_ne z2)
      | cons s t =>
        have hs : s ∈ firstsS z r g := by rw [h]; exact List.mem_cons_self
        have h1 := val_ge1 (hf s (good s hs))
        have h2 := (maxL_ge (l := (firstsS z r g).map f)).2 _ (List.mem_map_of_mem hs)
        omega
    · obtain ⟨s, hs, e⟩ := List.mem_map.mp hm
      exact ⟨s, hs, by rw [← e]; exact hf s (good s hs)⟩
  · refine ⟨.non, .inl ⟨rfl, Classical.byContradiction fun c => good fun s hs => Classical.byContradiction fun d => c ⟨s, hs, d⟩⟩⟩
def stepA (acc : List (Int × Int)) (rest : Int) : V → List (Int × Int)
  | .int m => if acc.all (fun p => decide (m < p.2)) = true then acc ++ [(rest, m)] else acc
  | _ => acc
def stairsL (f : Nat → V) : Nat → List (Int × Int)
  | 0 => []
  | n + 1 => stepA (stairsL f n) (1 + (n : Int)) (f n)
theorem stairs_down (f : Nat → V) : ∀ n, (stairsL f n).Pairwise (fun a b => b.2 < a.2) ∧ (stairsL f n).length ≤ n
  | 0 => ⟨.nil, Nat.le_refl _⟩
  | n + 1 => by
    obtain ⟨h1, h2⟩ := stairs_down f n
    show (stepA _ _ _).Pairwise _ ∧ (stepA _ _ _).length ≤ _
    cases f n with
    | int m =>
      simp only [stepA]
      by_cases e : (stairsL f n).all (fun p => decide (m < p.2)) = true
      · rw [if_pos e]
        refine ⟨List.pairwise_append.mpr ⟨h1, List.pairwise_singleton _ _, fun a ha b hb => ?_⟩, by rw [List.length_append, List.length_singleton]; omega⟩
        rw [List.mem_singleton.mp hb]
        exact of_decide_eq_true (List.all_eq_true.mp e a ha)
      · rw [if_neg e]
        exact ⟨h1, by omega⟩
    | _ => exact ⟨h1, by simp only [stepA]; omega⟩
theorem last_all {acc : List (Int × Int)} {l : Int × Int} {m : Int} (h : acc.Pairwise (fun a b => b.2 < a.2)) (hl : acc.getLast? = some l) : acc.all (fun p => decide (m < p.2)) = decide (m < l.2) := by
  rw [Bool.eq_iff_iff, List.all_eq_true, decide_eq_true_iff]
  constructor
  · intro k
    exact of_decide_eq_true (k l (List.mem_of_getLast? hl))
  · intro k p hp
    obtain ⟨ne, e⟩ : ∃ ne : acc ≠ [], acc.getLast ne = l := by
      cases acc with
      | nil => cases hl
      | cons a b => exact ⟨by simp, by rw [List.getLast?_eq_some_getLast (by simp)] at hl; exact Option.some.inj hl⟩
    have sp := List.dropLast_concat_getLast ne
    rw [e] at sp
    rw [← sp] at hp h
    rcases List.mem_append.mp hp with hp | hp
    · have := (List.pairwise_append.mp h).2.2 p hp l (List.mem_singleton.mpr rfl)
      exact decide_eq_true (by omega)
    · rw [List.mem_singleton.mp hp]
      exact decide_eq_true k
def sp_stairs (K : PySem.W.Frag) (tb tb2 tb3 tb4 : Addr) : Sp := fun vs H Q _ => ∃ (h t : V) (z r g : Int) (rs : List Row) (f : Nat → V), vs = [h, t] ∧ Dp K H h (houseT z r g) ∧ Dp K H t (tableD rs) ∧ (∀ n : Nat, n < 6 → Both z (1 + (n : Int)) g rs) ∧ (∀ n : Nat, n < 6 → GafV z (1 + (n : Int)) g (nxS z (1 + (n : Int)) rs) (fun _ => 1) (f n)) ∧ GxR.TabG H tb ∧ GxR.TabG H tb2 ∧ GxR.TabG H tb3 ∧ GxR.TabG H tb4 ∧
  ∀ (t' : Addr) (ps : List V) (J : Hp), Grow H J → J t' = some (.tup ps) → DpAll K J ps ((stairsL f 6).map pairD) → Q (.ref t') J
section
variable {P : Program} {w : World} {K : PySem.W.Frag} {mg : Str → Option Value} {base : Heap}
theorem ok_stairs (T : Txt K mg) (TB : ∀ p ∈ T.tabs, GxR.TabB base mg p.1 p.2) : FnOk P w K mg base CX0 16 T.a_stairs T.d_stairs ["house", "table"] (sp_stairs K T.p_changes_of T.p_heads_back T.p_turns T.p_answered) := by
  have G_latest : FnOk P w K mg base CX0 15 T.a_latest T.d_latest ["house", "table"] (sp_last18 K (fun _ _ _ => 1) T.p_changes_of T.p_heads_back T.p_turns T.p_answered) := ok_latest T TB
  refine T.F_stairs.ok sc_stairs (fun vs H Q E h => ?_) (fun cdv A outer s H vs Q E hr h => ?_)
  · obtain ⟨h, t, z, r, g, rs, f, rfl, _⟩ := h
    rfl
  · obtain ⟨h, t, z, r, g, rs, f, rfl, hh, ht, bo, hf, hT1, hT2, hT3, hT4, k⟩ := h
    refine ⟨_, (pss_cons (ps_asg (pv 0) (pg_tup (by rfl) (pgs_cons (pg_name (i := 2) sc_stairs.nd rfl (Or.inl rfl)) (pgs_cons (pg_name (i := 3) sc_stairs.nd rfl (Or.inl rfl)) (pgs_cons (pg_name (i := 4) sc_stairs.nd rfl (Or.inl rfl)) pgs_nil)))))
      (pss_cons (ps_set (i := 5) sc_stairs.nd rfl (Or.inl rfl) (pe_lst pa_nil))
      (pss_cons (ps_for PassesOwn.never rfl (pi_tup (pe_glob (v := .ref T.a_RESTS) rfl T.g_RESTS rfl)) (pg_name (i := 6) sc_stairs.nd rfl (Or.inl rfl))
        (pss_cons (ps_set (i := 7) sc_stairs.nd rfl (Or.inl rfl) (pe_call G_latest (hr.mono (by omega)) (by rfl) T.g_latest T.F_latest.kp T.b_latest .nil pass0 (pa_cons (pe_tup (pa_cons (pv 2) (pa_cons (pv 6) (pa_cons (pv 4) pa_nil)))) (pa_cons (pv 1) pa_nil))))
      (pss_one (ps_if (PW.pt (pw_and (pt_cmpR op_notN (pv 7) pe_non (nomark _)) (pw_and1 (PW.pt (pw_or (pt_cmpR op_eq (pe_callB (id := "len") call_len_seq (by rfl) T.m_len (by decide +kernel) (pa_cons (pv 5) pa_nil)) pe_int (nomark _)) (pw_or1 (pt_cmpR op_lt (pv 7) (pe_ix ix_tup (pe_ix ix_list (pv 5) (pe_un un_neg pe_int) (fun _ _ => rfl)) pe_int (fun _ _ => rfl)) (nomark _))))))))
        (pss_one (ps_expr (pe_bm PySem.F.plainAttrs_list PySem.F.slot_list_append PySem.F.type_list_append mt_append (pv 5) (pa_cons (pe_tup (pa_cons (pv 6) (pa_cons (pv 7) pa_nil))) pa_nil))))
        pss_nil))))
      (pss_one (ps_ret (pe_callTy (T := "tuple") call_tuple_of (by rfl) T.m_tuple (by decide +kernel) (pa_cons (pv 5) pa_nil))))))), ?_⟩
    obtain ⟨th, rfl, sth⟩ := dp_three hh
    refine ⟨_, rfl, th, _, rfl, sth, rfl, _, _, rfl, _, _, rfl, _, _, rfl, rfl, ?_⟩
    refine ⟨Nat.zero_le _, fun F hF => ?_⟩
    have G1 : Grow H (upd H F (.lst [])) := Grow.new hF
    have F1 : upd H F (.lst []) F = some (.lst []) := upd_same
    show gName 5 (V.ref F) _ (upd H F (.lst [])) _
    generalize upd H F (.lst []) = J1 at G1 F1 ⊢
    have qR : ∀ J, SqT K J T.a_RESTS [.int 1, .int 2, .int 3, .int 4, .int 5, .int 6] := fun J => sq_any T.q_RESTS
    have pk : ∀ l : List (Int × Int), isKeyDs (l.map pairD) = true := fun l => keys_all fun d hd => by
      obtain ⟨q, _, rfl⟩ := List.mem_map.mp hd
      rfl
    refine ⟨T.a_RESTS, rfl, ⟨_, qR _⟩, for_tup (K := K) (a := T.a_RESTS) (xs := [.int 1, .int 2, .int 3, .int 4, .int 5, .int 6]) (fun i σ J => ∃ (y6 y7 : Option V) (fs : List V), σ = [some (.ref th), some t, some (.int z), some (.int r), some (.int g), some (.ref F), y6, y7] ∧ Grow H J ∧ J F = some (.lst fs) ∧ DpAll K J fs ((stairsL f i).map pairD)) ⟨none, none, [], rfl, G1, F1, .nil⟩ (fun _ _ J _ _ => qR J) ?_ ?_⟩
    · rintro i x σ J hx ⟨y6, y7, fs, rfl, G, hFJ, df⟩
      have i6 : i < 6 := (List.getElem?_eq_some_iff.mp hx).1
      have ex : x = .int (1 + (i : Int)) := by
        rcases (by omega : i = 0 ∨ i = 1 ∨ i = 2 ∨ i = 3 ∨ i = 4 ∨ i = 5) with rfl | rfl | rfl | rfl | rfl | rfl <;> (cases hx; rfl)
      subst ex
      have lf := dpAll_len df
      rw [List.length_map] at lf
      obtain ⟨dn, le⟩ := stairs_down f i
      refine ⟨_, rfl, _, rfl, _, rfl, by show 3 ≤ sizeLine; decide, fun q hq => ?_⟩
      have Gq : Grow J (upd J q (.tup [.int z, .int (1 + (i : Int)), .int g])) := Grow.new hq
      have hq1 : upd J q (.tup [.int z, .int (1 + (i : Int)), .int g]) q = some (.tup [.int z, .int (1 + (i : Int)), .int g]) := upd_same
      show tCons _ _ _ (upd J q (.tup [.int z, .int (1 + (i : Int)), .int g])) _
      have hF2 := Gq.at hFJ
      have df2 := growDpAll Gq _ _ df
      have G2 := G.trans Gq
      generalize upd J q (.tup [.int z, .int (1 + (i : Int)), .int g]) = J2 at hq1 hF2 df2 G2 ⊢
      refine ⟨_, rfl, .ref q, t, z, 1 + (i : Int), g, rs, rfl, .tup (SqT.of hq1) (.cons (.int _) (.cons (.int _) (.cons (.int _) .nil))), growDp G2 _ _ ht, bo i i6, G2.t.tab hT1, G2.t.tab hT2, G2.t.tab hT3, G2.t.tab hT4, fun v J3 G23 hv => ?_⟩
      have ev := hv.one (hf i i6)
      subst ev
      have G3 := G2.trans G23
      have hF3 := G23.at hF2
      have df3 := growDpAll G23 _ _ df2
      have eN : stairsL f (i + 1) = stepA (stairsL f i) (1 + (i : Int)) (f i) := rfl
      rcases hf i i6 with ⟨e0, _⟩ | ⟨m, e0, _⟩
      · rw [e0] at eN ⊢
        exact ⟨_, rfl, rfl, _, rfl, iteF ⟨_, _, fs, rfl, G3, hF3, by rw [eN]; exact df3⟩⟩
      · rw [e0] at eN ⊢
        simp only [stepA] at eN
        have eS : (stairsL f i).all (fun p => decide (m < p.2)) = true → stairsL f (i + 1) = stairsL f i ++ [(1 + (i : Int), m)] := fun h => by rw [eN, if_pos h]
        refine ⟨_, rfl, rfl, _, rfl, iteT ?_⟩
        refine ⟨_, rfl, F, fs, rfl, .inl (SqL.of hF3), rfl, _, rfl, ite2 (fun e => ?_) (fun e => ?_)⟩
        · have l0 : (stairsL f i).length = 0 := by
            have := V.int.inj (of_decide_eq_true e)
            omega
          have hall : (stairsL f i).all (fun p => decide (m < p.2)) = true := by rw [List.length_eq_zero_iff.mp l0]; rfl
          refine ⟨_, rfl, .inl ⟨rfl, _, SqL.of hF3⟩, _, rfl, _, rfl, by show 2 ≤ sizeLine; decide, fun q2 hq2 => ?_⟩
          have Gq : Grow J3 (upd J3 q2 (.tup [.int (1 + (i : Int)), .int m])) := Grow.new hq2
          have hF4 := Gq.at hF3
          refine ⟨F, fs, _, rfl, rfl, hF4, Nat.lt_of_le_of_lt (by omega : fs.length ≤ 100) (by decide), ?_⟩
          have kW : TupK (upd J3 q2 (.tup [.int (1 + (i : Int)), .int m])) (upd (upd J3 q2 (.tup [.int (1 + (i : Int)), .int m])) F (.lst (fs ++ [.ref q2]))) := TupK.lst hF4
          refine ⟨_, _, fs ++ [.ref q2], rfl, (G3.trans Gq).write hF, upd_same, ?_⟩
          rw [eS hall, List.map_append]
          exact dpAll_snoc (kW.keys _ _ (pk _) (growDpAll Gq _ _ df3)) (kW.key _ _ rfl (.tup (SqT.of upd_same) (.cons (.int _) (.cons (.int _) .nil))))
        · have l1 : 0 < fs.length := Nat.pos_of_ne_zero fun h => e (decide_eq_true (by rw [h]; rfl))
          obtain ⟨la, hla⟩ : ∃ la, (stairsL f i)[fs.length - 1]? = some la := ⟨_, List.getElem?_eq_getElem (by omega)⟩
          obtain ⟨x, hxl⟩ : ∃ x, fs[fs.length - 1]? = some x := ⟨_, List.getElem?_eq_getElem (by omega)⟩
          obtain ⟨d, hd, dx⟩ := dpAll_get df3 hxl
          rw [List.getElem?_map, hla] at hd
          rw [← Option.some.inj hd] at dx
          obtain ⟨bq, rfl, hbq⟩ := dp_two dx
          have at1 : atI fs (-1) = some (.ref bq) := atI_last (by rw [List.getLast?_eq_getElem?]; exact hxl)
          have la2 := last_all (m := m) dn (l := la) (by rw [List.getLast?_eq_getElem?, ← lf]; exact hla)
          refine ⟨_, rfl, _, rfl, 1, rfl, F, fs, -1, _, rfl, rfl, SqL.of hF3, at1, bq, _, 1, _, rfl, rfl, hbq, rfl, _, _, rfl, rfl, _, rfl, ite2 (fun h => ?_) (fun h => ?_)⟩
          · have hall : (stairsL f i).all (fun p => decide (m < p.2)) = true := by rw [la2]; exact h
            refine ⟨_, rfl, .inl ⟨rfl, _, SqL.of hF3⟩, _, rfl, _, rfl, by show 2 ≤ sizeLine; decide, fun q2 hq2 => ?_⟩
            have Gq : Grow J3 (upd J3 q2 (.tup [.int (1 + (i : Int)), .int m])) := Grow.new hq2
            have hF4 := Gq.at hF3
            refine ⟨F, fs, _, rfl, rfl, hF4, Nat.lt_of_le_of_lt (by omega : fs.length ≤ 100) (by decide), ?_⟩
            have kW : TupK (upd J3 q2 (.tup [.int (1 + (i : Int)), .int m])) (upd (upd J3 q2 (.tup [.int (1 + (i : Int)), .int m])) F (.lst (fs ++ [.ref q2]))) := TupK.lst hF4
            refine ⟨_, _, fs ++ [.ref q2], rfl, (G3.trans Gq).write hF, upd_same, ?_⟩
            rw [eS hall, List.map_append]
            exact dpAll_snoc (kW.keys _ _ (pk _) (growDpAll Gq _ _ df3)) (kW.key _ _ rfl (.tup (SqT.of upd_same) (.cons (.int _) (.cons (.int _) .nil))))
          · refine ⟨_, _, fs, rfl, G3, hF3, ?_⟩
            rw [eN, if_neg (by rw [la2]; exact h)]
            exact df3
    · rintro σ J ⟨y6, y7, fs, rfl, G, hFJ, df⟩
      refine ⟨_, rfl, F, _, rfl, .inl ⟨SqL.of hFJ, fun tt htt => ?_⟩⟩
      have Gt : Grow J (upd J tt (.tup fs)) := Grow.new htt
      exact k tt fs _ (G.trans Gt) upd_same (growDpAll Gt _ _ df)
end

/-! ### how many rows fit -/
def sp_rowsfit (K : PySem.W.Frag) : Sp := fun vs H Q _ => ∃ (th : Addr) (z r : Int) (g : Nat), vs = [.ref th] ∧ SqT K H th [.int z, .int r, .int (g : Int)] ∧ 2 ≤ z ∧ z ≤ 4 ∧ g ≤ 3 ∧ z ^ ((g : Int) + 1).toNat ≤ 1000 ∧ ∀ x : Int, 1 ≤ x → x ≤ 6 → Q (.int x) H
section
variable {P : Program} {w : World} {K : PySem.W.Frag} {mg : Str → Option Value} {base : Heap}
theorem ok_rowsfit (T : Txt K mg) : FnOk P w K mg base CX0 2 T.a_rows_that_fit T.d_rows_that_fit ["_law_house_here"] (sp_rowsfit K) := by
  have G_power : FnOk P w K mg base CX0 1 T.a_power T.d_power ["_law_servers", "_law_lag"] sp_power := ok_power T
  refine T.F_rows_that_fit.ok sc_rows_that_fit (fun vs H Q E h => ?_) (fun cdv A outer s H vs Q E hr h => ?_)
  · obtain ⟨th, z, r, g, rfl, _⟩ := h
    rfl
  · obtain ⟨th, z, r, g, rfl, hth, z2, z4, g3, hp9, k⟩ := h
    refine ⟨_, (pss_one (ps_ret (pe_callB (id := "max") (call_max2 rfl) (by rfl) T.m_max (by decide +kernel) (pa_cons pe_int (pa_cons (pe_callB (id := "min") (call_min2 rfl) (by rfl) T.m_min (by decide +kernel) (pa_cons pe_int (pa_cons (pe_op op_fdivN pe_int (pe_call G_power (hr.mono (by omega)) (by rfl) T.g_power T.F_power.kp T.b_power .nil pass0 (pa_cons (pe_ix ix_tup (pv 0) pe_int (fun _ _ => rfl)) (pa_cons (pe_ix ix_tup (pv 0) pe_int (fun _ _ => rfl)) pa_nil)))) pa_nil))) pa_nil))))), ?_⟩
    have pp := pow_pos_int (show 0 < z by omega) ((g : Int) + 1).toNat
    refine ⟨_, rfl, th, _, 0, _, rfl, rfl, hth, rfl, _, rfl, th, _, 2, _, rfl, rfl, hth, rfl, z, (g : Int), rfl, by omega, by omega, by omega, by omega, ?_⟩
    generalize hpw : z ^ ((g : Int) + 1).toNat = pw at *
    refine ⟨_, _, rfl, rfl, ⟨by omega, by omega⟩, _, _, rfl, _, _, rfl, ?_⟩
    exact k _ (by split <;> (try split) <;> omega) (by split <;> (try split) <;> omega)
end

/-! ### the number of a house and a table, by the law's own look -/
def sp_lnumber (K : PySem.W.Frag) : Sp := fun vs H Q _ => ∃ (th : Addr) (t : V) (z r g : Int) (rs : List Row), vs = [.ref th, t] ∧ SqT K H th [.int z, .int r, .int g] ∧ Dp K H t (tableD rs) ∧ Both z r g rs ∧
  ∀ v J, Grow H J → GafV z r g (nxS z r rs) (fun _ => 1) v → Q v J
section
variable {P : Program} {w : World} {K : PySem.W.Frag} {mg : Str → Option Value} {base : Heap}
theorem ok_lnumber (T : Txt K mg) : FnOk P w K mg base CX0 7 T.a_number T.d_number ["_law_house_here", "_law_table_here"] (sp_lnumber K) := by
  have G_numbers : FnOk P w K mg base CX0 6 T.a_numbers T.d_numbers ["_law_house_here", "_law_table_here"] (sp_lnum K w) := ok_lnum18 T
  have G_reached : FnOk P w K mg base CX0 5 T.a_reached T.d_reached ["_law_house_here", "_law_table_here"] (sp_lreach K w) := ok_lreach18 T
  have G_l_firsts : FnOk P w K mg base CX0 2 T.a_l_firsts T.d_l_firsts ["_law_house_here"] (sp_lfirsts38 K) := ok_lfirsts38 T
  refine T.F_number.ok sc_number (fun vs H Q E h => ?_) (fun cdv A outer s H vs Q E hr h => ?_)
  · obtain ⟨th, t, z, r, g, rs, rfl, _⟩ := h
    rfl
  · obtain ⟨th, t, z, r, g, rs, rfl, hth, ht, bo, k⟩ := h
    refine ⟨_, (pss_cons (ps_set (i := 2) sc_number.nd rfl (Or.inr rfl) (pe_call G_numbers (hr.mono (by omega)) (by rfl) T.g_numbers T.F_numbers.kp T.b_numbers .nil pass0 (pa_cons (pv 0) (pa_cons (pv 1) pa_nil))))
      (pss_cons (ps_if (pt_cmpR op_lt (pe_callB (id := "len") cr_lenN (by rfl) T.m_len (by decide +kernel) (pa_cons (pv 2) pa_nil)) (pe_callB (id := "len") cr_lenN (by rfl) T.m_len (by decide +kernel) (pa_cons (pe_call G_reached (hr.mono (by omega)) (by rfl) T.g_reached T.F_reached.kp T.b_reached .nil pass0 (pa_cons (pv 0) (pa_cons (pv 1) pa_nil))) pa_nil)) (nomark _))
        (pss_one (ps_ret pe_non))
        pss_nil)
      (pss_one (ps_ret (pe_callB (id := "max") (cr_max rfl) (by rfl) T.m_max (by decide +kernel) (pa_cons (pe_lc (own := [("_law_heads_here", 3), ("_law_hold_here", 4)]) (g := gTup K 2 (gCons (gName 3) (gCons (gName 4) gNil))) (by rfl) sc_number.nd (pi_list (pe_call G_l_firsts (hr.mono (by omega)) (by rfl) T.g_l_firsts T.F_l_firsts.kp T.b_l_firsts .nil pass0 (pa_cons (pv 0) pa_nil))) (blkOk_by (own := [("_law_heads_here", 3), ("_law_hold_here", 4)]) (N := ["_law_house_here", "_law_table_here", "_law_found", "_law_heads_here", "_law_hold_here"]) (sc := defScope s_number) (by decide +kernel)) (fun _ _ _ _ _ => (pg_pairK K (i := 3) (j := 4) rfl rfl sc_number.nd rfl (Or.inl rfl) rfl (Or.inl rfl))) (fun _ _ _ _ _ => pts_nil) (fun _ _ _ _ _ => (pe_callTy (T := "int") call_int1 (by rfl) T.m_int (by decide +kernel) (pa_cons (pe_ngetK K w rfl rfl (hu64 hr) (pv 2) (pe_tup (pa_cons (pv 3) (pa_cons (pv 4) (pa_cons (pe_tup (pa_cons pe_int (pa_cons pe_int (pa_cons (pe_un un_neg pe_int) pa_nil)))) pa_nil)))) (fun _ _ => rfl)) pa_nil)))) pa_nil)))))), ?_⟩
    obtain ⟨z2, z4, r1, r6, g0, g3, _⟩ := bo.h
    refine ⟨_, rfl, _, rfl, th, t, z, r, g, rs, rfl, hth, ht, bo, fun F MF os J1 G1 XJ vJ kJ ndo mo => ?_⟩
    refine ⟨_, rfl, F, MF, rfl, XJ, vJ.keys, _, rfl, _, rfl, th, t, z, r, g, rs, rfl, G1.tup hth, growDp G1 _ _ ht, bo, fun DL LL ss J2 G2 ll => ?_⟩
    have G12 := G1.trans G2
    have lM := vJ.len
    have lL := ll.v.len
    have osub : ∀ s ∈ os, s ∈ ss := fun s hs => (ll.m s).mpr ((mo s).mp hs).1
    refine ⟨DL, LL, rfl, ll.d, ll.v.keys, _, _, rfl, rfl, _, rfl, ite2 (fun e => ?_) (fun e => ?_)⟩
    · refine k _ _ G12 (.inl ⟨rfl, Classical.byContradiction fun c => ?_⟩)
      have good : ∀ s ∈ firstsS z r g, Srv (nxS z r rs) s := fun s hs => Classical.byContradiction fun d => c ⟨s, hs, d⟩
      have a2 := List.Nodup.length_le_of_subset ll.n (l₂ := os) fun s hs => (mo s).mpr ⟨(ll.m s).mp hs, rch_srv good ((ll.m s).mp hs)⟩
      have := of_decide_eq_true e
      omega
    · have le : LL.length ≤ MF.length := by
        have : ¬ (MF.length : Int) < LL.length := fun h => e (decide_eq_true h)
        omega
      have all : ∀ s ∈ ss, s ∈ os := fun s hs => Classical.byContradiction fun c => by
        have := List.Nodup.length_le_of_subset (List.nodup_cons.mpr ⟨c, ndo⟩) (l₂ := ss) fun x hx => by
          rcases List.mem_cons.mp hx with rfl | hx
          · exact hs
          · exact osub x hx
        rw [List.length_cons] at this
        omega
      have F2 := G2.at XJ (fun q => dictKO_ne fun _ z => by cases z)
      refine ⟨_, rfl, th, z, r, g, rfl, G12.tup hth, bo.h, fun l us ms J4 S4 hl pw ndm memm => ?_⟩
      have g4 := Grow.of_same S4
      have inF : ∀ s : Stg, s ∈ ms.map (fun p => ((p.1, p.2, (0, 0, -1)) : Stg)) ↔ s ∈ firstsS z r g := fun s => by
        unfold firstsS
        rw [(List.mergeSort_perm _ leS).mem_iff, List.mem_map, List.mem_map]
        constructor
        · rintro ⟨p, hp, rfl⟩
          obtain ⟨ns, hns, rfl⟩ := (memm p).mp hp
          exact ⟨ns, hns, rfl⟩
        · rintro ⟨ns, hns, rfl⟩
          exact ⟨(ns.reverse, holdI r ns), (memm _).mpr ⟨ns, hns, rfl⟩, rfl⟩
      have ndF : (ms.map fun p => ((p.1, p.2, (0, 0, -1)) : Stg)).Nodup := List.Pairwise.map _ (fun a b ne e => ne (Prod.ext (congrArg (fun q : Stg => q.1) e) (congrArg (fun q : Stg => q.2.1) e))) ndm
      have l81 : (ms.map fun p => ((p.1, p.2, (0, 0, -1)) : Stg)).length ≤ 81 := Nat.le_trans (List.Nodup.length_le_of_subset ndF fun s hs => (inF s).mp hs) (firstsS_len bo.h)
      rw [List.length_map] at l81
      have neF : ms ≠ [] := fun e => by
        have ne := firstsS_ne (z := z) (r := r) (g := g) z2
        rw [e] at inF
        exact ne (List.eq_nil_iff_forall_not_mem.mpr fun s hs => List.not_mem_nil ((inF s).mpr hs))
      refine ⟨l, rfl, ⟨_, SqL.of hl⟩, fun Cm hCm => ?_⟩
      refine lc_list (K := K) (a := l) (xs := us) (fun j G => ∃ ns : List Int, Grow J4 G ∧ G Cm = some (.lst (ns.map V.int)) ∧ Paired (fun (u : Stg) (n : Int) => Val (nxS z r rs) (fun _ => 1) u n) ((ms.take j).map fun p => ((p.1, p.2, (0, 0, -1)) : Stg)) ns) ⟨[], Grow.new hCm, upd_same, ?_⟩ (fun j G _ ⟨_, gr, _⟩ => SqL.of (gr.at hl)) ?_ ?_
      · rw [List.take_zero]
        exact .nil
      · rintro j x G hx2 ⟨ns, gr, hCG, pn⟩
        obtain ⟨p, hp, px⟩ := wds_nth pw hx2
        obtain ⟨b2, c2, rfl, hb2, hc2⟩ := px.grow gr
        have tku : ms.take (j + 1) = ms.take j ++ [p] := by rw [List.take_add_one, hp]; rfl
        have lns := paired_length pn
        rw [List.length_map, List.length_take] at lns
        refine ⟨b2, _, rfl, hb2, rfl, _, _, rfl, _, _, rfl, rfl, ?_⟩
        refine ⟨rfl, ?_⟩
        unfold tYes
        refine iteT ⟨_, rfl, _, rfl, ?_⟩
        refine ⟨_, rfl, ?_⟩
        refine ⟨1, rfl, by show 3 ≤ sizeLine; decide, fun p1 hp1 => ?_⟩
        have S1' : Grow G (upd G p1 (.tup [.int 0, .int 0, .int (-1)])) := Grow.new hp1
        have P1 : (upd G p1 (.tup [.int 0, .int 0, .int (-1)])) p1 = some (.tup [.int 0, .int 0, .int (-1)]) := upd_same
        show tNil _ (upd G p1 (.tup [.int 0, .int 0, .int (-1)])) _
        generalize upd G p1 (.tup [.int 0, .int 0, .int (-1)]) = G2' at S1' P1 ⊢
        refine ⟨by show 3 ≤ sizeLine; decide, fun p2 hp2 => ?_⟩
        have S2' : Grow G2' (upd G2' p2 (.tup [.ref c2, .int p.2, .ref p1])) := Grow.new hp2
        have P2 : (upd G2' p2 (.tup [.ref c2, .int p.2, .ref p1])) p2 = some (.tup [.ref c2, .int p.2, .ref p1]) := upd_same
        show ∃ a L b d c v, _ ∧ _ ∧ (upd G2' p2 (.tup [.ref c2, .int p.2, .ref p1])) a = _ ∧ _
        generalize upd G2' p2 (.tup [.ref c2, .int p.2, .ref p1]) = G3 at S2' P2 ⊢
        have S3 := S1'.trans S2'
        have dn : Dp K G3 (.ref p2) (stgD (p.1, p.2, (0, 0, -1))) := .tup (SqT.of P2) (.cons (.tup (hc2.growZ S3).sq (ints_dp _)) (.cons (.int _) (.cons (.tup (S2'.tup (SqT.of P1)) (.cons (.int _) (.cons (.int _) (.cons (.int _) .nil)))) .nil)))
        have g5 := (g4.trans gr).trans S3
        have v3 := vJ.mono (F' := ValV (nxS z r rs) (fun _ => 1)) (TupK.grow (G2.trans g5)) fun s _ v q => q
        have hinF : ((p.1, p.2, (0, 0, -1)) : Stg) ∈ os := all _ ((ll.m _).mpr (.first ((inF _).mp (List.mem_map_of_mem (List.mem_of_getElem? hp)))))
        obtain ⟨eb3, ev3, hin3, m, rfl, hvm⟩ := v3.get hinF
        have hC3 := S3.at hCG
        refine ⟨F, MF, p2, _, eb3, _, rfl, rfl, g5.at F2 (fun q => dictKO_ne fun _ z => by cases z), v3.keys, IsKeyAt.stg dn, hin3, ?_⟩
        refine .inl ⟨m, rfl, _, hC3, Nat.lt_of_le_of_lt (by rw [List.length_map]; omega : (ns.map V.int).length ≤ 81) (by decide), ns ++ [m], (gr.trans S3).write hCm, by rw [upd_same, List.map_append]; rfl, ?_⟩
        rw [tku, List.map_append]
        exact paired_snoc pn hvm
      · rintro G ⟨ns, gr, hCG, pn⟩
        rw [wds_len pw, List.take_length] at pn
        have lns := paired_length pn
        rw [List.length_map] at lns
        refine ⟨Cm, ns, rfl, SqL.of hCG, by rw [← lns]; exact List.length_pos_iff.mpr neF, fun m hm hx => ?_⟩
        refine k _ G ((G12.trans g4).trans gr) (.inr ⟨m, rfl, fun s hs => ?_, ?_⟩)
        · obtain ⟨n, hn, hv⟩ := paired_in1 pn ((inF s).mpr hs)
          exact ⟨n, hv, hx n hn⟩
        · obtain ⟨s, hs, hv⟩ := paired_in2 pn hm
          exact ⟨s, (inF s).mp hs, hv⟩
end

/-! ### the values are small, and one -/
theorem gaf_one {z r g : Int} {nx : Stg → List Stg} {co : Stg → Int} {v u : V} (h : GafV z r g nx co v) (k : GafV z r g nx co u) : v = u := by
  rcases h with ⟨rfl, s, hs, ns⟩ | ⟨m, rfl, h1, s, hs, hv⟩
  · rcases k with ⟨rfl, _⟩ | ⟨n, rfl, k1, _⟩
    · rfl
    · obtain ⟨x, hx, _⟩ := k1 s hs
      exact absurd hx.srv ns
  · rcases k with ⟨rfl, t, ht, nt⟩ | ⟨n, rfl, k1, t, ht, hu⟩
    · obtain ⟨x, hx, _⟩ := h1 t ht
      exact absurd hx.srv nt
    · obtain ⟨x, hx, l1⟩ := h1 t ht
      obtain ⟨y, hy, l2⟩ := k1 s hs
      have e1 := hx.one hu
      have e2 := hy.one hv
      have : m = n := by omega
      rw [this]
theorem val_chain {α : Type} {nx : α → List α} {R : α → Prop} (cl : ∀ s, R s → ∀ t ∈ nx s, R t) : ∀ (n : Nat) (s : α), R s → Val nx (fun _ => 1) s (n : Int) → ∃ l : List α, l.Nodup ∧ (∀ x ∈ l, R x ∧ ∃ k, Val nx (fun _ => 1) x k ∧ k ≤ (n : Int)) ∧ l.length = n
  | 0, s, _, h => by have := val_ge1 h; omega
  | n + 1, s, rs, h => by
    obtain ⟨f, hf⟩ : ∃ f : α → Int, ∀ t ∈ nx s, Val nx (fun _ => 1) t (f t) := by
      refine ⟨fun t => Classical.epsilon fun v => Val nx (fun _ => 1) t v, fun t ht => Classical.epsilon_spec (p := fun v => Val nx (fun _ => 1) t v) ?_⟩
      exact (srv_iff.mp h.srv t ht).val
    have e := h.one (Val.step hf)
    rcases maxL_mem (l := (nx s).map f) with e0 | e0
    · rw [e0] at e
      have : n = 0 := by omega
      subst this
      exact ⟨[s], by simp, fun x hx => by rw [List.mem_singleton.mp hx]; exact ⟨rs, _, h, Int.le_refl _⟩, rfl⟩
    · obtain ⟨t, ht, et⟩ := List.mem_map.mp e0
      have vt := hf t ht
      rw [et, show maxL ((nx s).map f) = (n : Int) by omega] at vt
      obtain ⟨l, nd, hl, len⟩ := val_chain cl n t (cl s rs t ht) vt
      refine ⟨s :: l, List.nodup_cons.mpr ⟨fun hs => ?_, nd⟩, fun x hx => ?_, by rw [List.length_cons, len]⟩
      · obtain ⟨_, k, hk, le⟩ := hl s hs
        have := hk.one h
        omega
      · rcases List.mem_cons.mp hx with rfl | hx
        · exact ⟨rs, _, h, Int.le_refl _⟩
        · obtain ⟨a, k, b, c⟩ := hl x hx
          exact ⟨a, k, b, by omega⟩
theorem valN_le {α : Type} {nx : α → List α} {c : α → Int} (c1 : ∀ s, c s ≤ 1) : ∀ (n : Nat) (s : α), valN nx c n s ≤ valN nx (fun _ => 1) n s
  | 0, _ => Int.le_refl _
  | n + 1, s => by
    show c s + maxL ((nx s).map (valN nx c n)) ≤ 1 + maxL ((nx s).map (valN nx (fun _ => 1) n))
    have := c1 s
    rcases maxL_mem (l := (nx s).map (valN nx c n)) with e | e
    · have := (maxL_ge (l := (nx s).map (valN nx (fun _ => 1) n))).1
      omega
    · obtain ⟨t, ht, et⟩ := List.mem_map.mp e
      have h1 := valN_le (nx := nx) c1 n t
      have h2 := (maxL_ge (l := (nx s).map (valN nx (fun _ => 1) n))).2 _ (List.mem_map_of_mem ht)
      omega
theorem gaf_small {z r g : Int} {rs : List Row} {co : Stg → Int} (bo : Both z r g rs) (c0 : ∀ s, 0 ≤ co s) (c1 : ∀ s, co s ≤ 1) {v : V} (h : GafV z r g (nxS z r rs) co v) : v = .non ∨ ∃ m : Int, v = .int m ∧ 0 ≤ m ∧ m ≤ 60000 := by
  rcases h with ⟨rfl, _⟩ | ⟨m, rfl, _, s, hs, hv⟩
  · exact .inl rfl
  · refine .inr ⟨m, rfl, hv.pos c0, ?_⟩
    obtain ⟨n, rk, rfl⟩ := hv
    have h1 : Val (nxS z r rs) (fun _ => 1) s (valN (nxS z r rs) (fun _ => 1) n s) := ⟨n, rk, rfl⟩
    have p1 := val_ge1 h1
    rw [show valN (nxS z r rs) (fun _ => 1) n s = (((valN (nxS z r rs) (fun _ => 1) n s).toNat : Nat) : Int) by omega] at h1
    obtain ⟨l, nd, hl, len⟩ := val_chain (R := RchS z r g rs) (fun s hs t ht => .step hs ht) _ s (.first hs) h1
    have := few_stgs bo nd fun x hx => RchS.ok bo (hl x hx).1
    have := valN_le (nx := nxS z r rs) c1 n s
    omega
theorem costS_in (z : Int) (rs : List Row) (s : Stg) : 0 ≤ costS z rs s ∧ costS z rs s ≤ 1 := by
  unfold costS
  split
  · decide
  · split <;> decide
/-- a value as data -/
def valD : V → PyData
  | .int m => .int m
  | _ => .none
theorem gaf_dp {K : PySem.W.Frag} {H : Hp} {z r g : Int} {nx : Stg → List Stg} {co : Stg → Int} {v : V} (h : GafV z r g nx co v) : Dp K H v (valD v) := by
  rcases h with ⟨rfl, _⟩ | ⟨m, rfl, _⟩
  · exact .non
  · exact .int m
theorem two_tiny {v : V} (h : v = .non ∨ ∃ m : Int, v = .int m ∧ 0 ≤ m ∧ m ≤ 60000) : Tiny 143 20 2 (.list [valD v, valD v]) := by
  rcases h with rfl | ⟨m, rfl, m0, m1⟩
  · exact ⟨rfl, by decide, by decide⟩
  · have : m.natAbs < 2 ^ 143 := Nat.lt_of_le_of_lt (by omega : m.natAbs ≤ 60000) (by decide)
    refine ⟨by simp only [nice, niceAll, valD, decide_eq_true this, Bool.and_self], by simp only [wt, wtAll, valD]; decide, by simp only [PyData.depth, PyData.depthAll, valD]; decide⟩
theorem wait_table {rs : List Row} (h : TableOf 6 rs) : TableOf 6 (rs.map fun r : Row => ((("wait" : Str), r.2.1, r.2.2) : Row)) := by
  obtain ⟨h1, h2, h3⟩ := h
  refine ⟨by rw [List.length_map]; exact h1, by rw [List.length_map]; exact h2, fun row hrow => ?_⟩
  obtain ⟨x, hx, rfl⟩ := List.mem_map.mp hrow
  obtain ⟨_, a, b, c, d⟩ := h3 x hx
  rw [List.length_map]
  exact ⟨.inr (.inr rfl), a, b, c, d⟩
theorem both_of {z r : Int} {g : Nat} {rs : List Row} (hH : HouseOf 64 z r (g : Int)) (hrs : TableOf 6 rs) : Both z r (g : Int) rs := by
  obtain ⟨z2, z4, r1, r6, g0, g3, hz⟩ := hH
  obtain ⟨l1, l6, ht⟩ := hrs
  have l1 : 1 ≤ rs.length := by omega
  have l6 : rs.length ≤ 6 := by omega
  refine ⟨⟨z2, z4, r1, r6, g0, g3, Int.le_trans hz (by decide)⟩, l1, ht, ?_⟩
  have hz' : z.toNat ^ ((g : Int) + 1).toNat ≤ 64 := by
    have e : ((z.toNat ^ ((g : Int) + 1).toNat : Nat) : Int) = z ^ ((g : Int) + 1).toNat := by
      rw [Int.natCast_pow, Int.toNat_of_nonneg (by omega)]
    omega
  exact Nat.le_trans (Nat.mul_le_mul hz' l6) (by decide)
theorem pair_tiny {z r g : Int} {rs : List Row} (hz : z.natAbs ≤ 1000) (hr : r.natAbs ≤ 1000) (hg : g.natAbs ≤ 1000) (ht : TableOf 6 rs) : Tiny 143 300 4 (.list [houseT z r g, tableD rs]) := by
  have tT := (table_tiny (by decide) ht).mono (e' := 143) (W' := 100) (m' := 2) (by decide) (by have := ht.2.1; omega) (Nat.le_refl _)
  refine ⟨?_, ?_, ?_⟩
  · simp only [nice, niceAll, Bool.and_eq_true]
    exact ⟨nice_three (by decide) hz hr hg, tT.ni, trivial⟩
  · have := tT.we
    simp only [wt, wtAll, houseT] at this ⊢
    omega
  · have := tT.de
    simp only [PyData.depth, PyData.depthAll, houseT] at this ⊢
    omega
theorem all_in {os ss : List Stg} (ndo : os.Nodup) (sub : ∀ s ∈ os, s ∈ ss) (len : ss.length ≤ os.length) : ∀ s ∈ ss, s ∈ os := fun s hs => Classical.byContradiction fun c => by
  have := List.Nodup.length_le_of_subset (List.nodup_cons.mpr ⟨c, ndo⟩) (l₂ := ss) fun x hx => by
    rcases List.mem_cons.mp hx with rfl | hx
    · exact hs
    · exact sub x hx
  rw [List.length_cons] at this
  omega

theorem both_rest {z r : Int} {g : Int} {rs : List Row} (hH : HouseOf 9 z r g) (hrs : TableOf 3 rs) {q : Int} (q1 : 1 ≤ q) (q6 : q ≤ 6) : Both z q g rs := by
  obtain ⟨z2, z4, r1, r6, g0, g3, hp⟩ := hH
  obtain ⟨t1, t3, tr⟩ := hrs
  refine ⟨⟨z2, z4, q1, q6, g0, g3, by omega⟩, t1, tr, ?_⟩
  have h9 : z.toNat ^ (g + 1).toNat ≤ 9 := by
    have e : ((z.toNat ^ (g + 1).toNat : Nat) : Int) = z ^ (g + 1).toNat := by rw [Int.natCast_pow, Int.toNat_of_nonneg (by omega)]
    omega
  exact Nat.le_trans (Nat.mul_le_mul h9 (by omega : rs.length ≤ 3)) (by decide)
theorem stairs_in {f : Nat → V} : ∀ (n : Nat), ∀ q ∈ stairsL f n, ∃ k, k < n ∧ q.1 = 1 + (k : Int) ∧ f k = .int q.2
  | 0, q, h => absurd h List.not_mem_nil
  | n + 1, q, h => by
    have h : q ∈ stepA (stairsL f n) (1 + (n : Int)) (f n) := h
    have old : q ∈ stairsL f n → ∃ k, k < n + 1 ∧ q.1 = 1 + (k : Int) ∧ f k = .int q.2 := fun h => by
      obtain ⟨k, h1, h2⟩ := stairs_in n q h
      exact ⟨k, by omega, h2⟩
    cases hf : f n with
    | int m =>
      rw [hf] at h
      simp only [stepA] at h
      split at h
      · rcases List.mem_append.mp h with h | h
        · exact old h
        · rw [List.mem_singleton.mp h]
          exact ⟨n, by omega, rfl, hf⟩
      · exact old h
    | _ => rw [hf] at h; exact old h
theorem gaf_le {z r g : Int} {rs : List Row} (bo : Both z r g rs) {m : Int} (h : GafV z r g (nxS z r rs) (fun _ => 1) (.int m)) : 1 ≤ m ∧ m ≤ 60000 := by
  rcases h with ⟨e, _⟩ | ⟨m', e, _, s, hs, hv⟩
  · cases e
  · cases e
    have n1 := val_ge1 hv
    refine ⟨n1, ?_⟩
    obtain ⟨k, rfl⟩ : ∃ k : Nat, m = (k : Int) + 1 := ⟨(m - 1).toNat, by omega⟩
    obtain ⟨l, l1, l2, l3⟩ := val_few (RchS z r g rs) (fun s hs t ht => .step hs ht) k s (.first hs) hv
    have := few_stgs bo l2 fun s hs => RchS.ok bo (l3 s hs).1
    omega
theorem stairs_tiny {ps : List (Int × Int)} (l : ps.length ≤ 6) (h : ∀ q ∈ ps, 0 ≤ q.1 ∧ q.1 ≤ 6 ∧ 0 ≤ q.2 ∧ q.2 ≤ 60000) : Tiny 143 100 5 (.list [.tuple (ps.map pairD), .tuple (ps.map pairD)]) := by
  have i17 : ∀ x : Int, x.natAbs ≤ 60000 → nice 143 (.int x) = true := fun x hx => by
    have p : 2 ^ 17 ≤ 2 ^ 143 := Nat.pow_le_pow_right (by decide) (by decide)
    simp only [nice, decide_eq_true_eq]
    omega
  have one : ∀ d ∈ ps.map pairD, nice 143 d = true ∧ wt d = 3 ∧ d.depth = 1 := fun d hd => by
    obtain ⟨q, hq, rfl⟩ := List.mem_map.mp hd
    have := h q hq
    refine ⟨?_, by simp [pairD, wt, wtAll], by simp [pairD, PyData.depth, PyData.depthAll]⟩
    unfold pairD
    simp only [nice, niceAll, Bool.and_true, Bool.and_eq_true]
    exact ⟨i17 _ (by omega), i17 _ (by omega)⟩
  have w : ∀ ds : List PyData, (∀ d ∈ ds, wt d = 3) → wtAll ds = 3 * ds.length := fun ds => by
    induction ds with
    | nil => intro _; simp [wtAll]
    | cons d ds ih =>
      intro q
      have a := q d List.mem_cons_self
      have b := ih fun x hx => q x (List.mem_cons_of_mem _ hx)
      simp only [wtAll, List.length_cons, Nat.mul_succ]
      omega
  have w2 := w (ps.map pairD) fun d hd => (one d hd).2.1
  rw [List.length_map] at w2
  have dp : PyData.depthAll (ps.map pairD) ≤ 1 := depthAll_le.mpr fun d hd => Nat.le_of_eq (one d hd).2.2
  have n : niceAll 143 (ps.map pairD) = true := niceAll_iff.mpr fun d hd => (one d hd).1
  refine ⟨?_, by simp only [wt, wtAll]; omega, by simp only [PyData.depth, PyData.depthAll]; omega⟩
  simp only [nice, niceAll, Bool.and_eq_true]
  exact ⟨n, n, trivial⟩
section
variable {P : Program} {w : World} {K : PySem.W.Frag} {mg : Str → Option Value} {base : Heap}
theorem law_does {f : Addr} (T : Txt K mg) (TB : ∀ p ∈ T.tabs, GxR.TabB base mg p.1 p.2) : LawDoesT P w K mg base s_law ["_law_script", "_law_deck_here", "_law_turn", "_law_house_here", "_law_table_here", "_law_held", "_law_due", "_law_rest", "_law_number_here", "_law_one_here"] f T.tabs := by
  intro cdv s H a ns h63 hTt hS
  have m1 : (T.c_changes_of, T.p_changes_of) ∈ T.tabs := by simp [Txt.tabs]
  have m2 : (T.c_heads_back, T.p_heads_back) ∈ T.tabs := by simp [Txt.tabs]
  have m3 : (T.c_turns, T.p_turns) ∈ T.tabs := by simp [Txt.tabs]
  have m4 : (T.c_answered, T.p_answered) ∈ T.tabs := by simp [Txt.tabs]
  have hT1 : GxR.TabG H T.p_changes_of := ⟨#[], hTt _ m1, by trivial⟩
  have hT2 : GxR.TabG H T.p_heads_back := ⟨#[], hTt _ m2, by trivial⟩
  have hT3 : GxR.TabG H T.p_turns := ⟨#[], hTt _ m3, by trivial⟩
  have hT4 : GxR.TabG H T.p_answered := ⟨#[], hTt _ m4, by trivial⟩
  have hr := room_law (envOfC "law" (defScope s_law) s.heap.objs.size f cdv)
  have G_deck : FnOk P w K mg base CX0 1 T.a_deck T.d_deck ["_law_script"] (sp_deck K) := ok_deck T
  have G_house : FnOk P w K mg base CX0 3 T.a_house T.d_house ["_law_deck_here", "_law_room"] (sp_house K) := ok_house T
  have G_table : FnOk P w K mg base CX0 3 T.a_table T.d_table ["_law_deck_here", "_law_room"] (sp_table K) := ok_table T
  have G_rows_that_fit : FnOk P w K mg base CX0 2 T.a_rows_that_fit T.d_rows_that_fit ["_law_house_here"] (sp_rowsfit K) := ok_rowsfit T
  have G_number : FnOk P w K mg base CX0 7 T.a_number T.d_number ["_law_house_here", "_law_table_here"] (sp_lnumber K) := ok_lnumber T
  have G_stairs : FnOk P w K mg base CX0 16 T.a_stairs T.d_stairs ["house", "table"] (sp_stairs K T.p_changes_of T.p_heads_back T.p_turns T.p_answered) := ok_stairs T TB
  refine ⟨_, (pss_cons (ps_set (i := 1) sc_law.nd rfl (Or.inl rfl) (pe_call G_deck (hr.mono (by omega)) (by rfl) T.g_deck T.F_deck.kp T.b_deck .nil pass0 (pa_cons (pv 0) pa_nil)))
      (pss_cons (ps_for PassesOwn.never rfl (pi_range1 (by rfl) T.m_range (pa_cons pe_int pa_nil)) (pg_name (i := 2) sc_law.nd rfl (Or.inl rfl))
        (pss_cons (ps_set (i := 3) sc_law.nd rfl (Or.inl rfl) (pe_call G_house (hr.mono (by omega)) (by rfl) T.g_house T.F_house.kp T.b_house .nil pass0 (pa_cons (pv 1) (pa_cons pe_int pa_nil))))
      (pss_cons (ps_set (i := 4) sc_law.nd rfl (Or.inl rfl) (pe_call G_table (hr.mono (by omega)) (by rfl) T.g_table T.F_table.kp T.b_table .nil pass0 (pa_cons (pv 1) (pa_cons (pe_callB (id := "min") (call_min2 rfl) (by rfl) T.m_min (by decide +kernel) (pa_cons pe_int (pa_cons (pe_callTy (T := "int") call_int1 (by rfl) T.m_int (by decide +kernel) (pa_cons (pe_call G_rows_that_fit (hr.mono (by omega)) (by rfl) T.g_rows_that_fit T.F_rows_that_fit.kp T.b_rows_that_fit .nil pass0 (pa_cons (pv 3) pa_nil)) pa_nil)) pa_nil))) pa_nil))))
      (pss_cons (ps_par (i := 5) (j := 6) (by rfl) sc_law.nd rfl rfl (by decide) rfl rfl (pa_cons (pe_callB (id := "repr") (call_show rfl (by show 7 + 64 < cLine; decide)) (by rfl) T.m_repr (by decide +kernel) (pa_cons (pe_lst (pa_cons (pv 3) (pa_cons (pv 4) pa_nil))) pa_nil)) (pa_cons (pe_lst pa_nil) pa_nil)) (by rfl))
      (pss_cons (ps_for PassesOwn.never rfl (pi_range2 (by rfl) T.m_range (pa_cons pe_int (pa_cons pe_int pa_nil))) (pg_name (i := 7) sc_law.nd rfl (Or.inl rfl))
        (pss_cons (ps_set (i := 8) sc_law.nd rfl (Or.inr rfl) (pe_call G_number (hr.mono (by omega)) (by rfl) T.g_number T.F_number.kp T.b_number .nil pass0 (pa_cons (pe_tup (pa_cons (pe_ix ix_tup (pv 3) pe_int (fun _ _ => rfl)) (pa_cons (pv 7) (pa_cons (pe_ix ix_tup (pv 3) pe_int (fun _ _ => rfl)) pa_nil)))) (pa_cons (pv 4) pa_nil))))
      (pss_one (ps_if (PW.pt (pw_and (pt_cmpR op_notN (pv 8) pe_non (nomark _)) (pw_and1 (pt_cmpR (op_eqD hr.units) (pe_lc (own := [("_law_one_here", 9)]) (g := gName 9) (by rfl) sc_law.nd (pi_list (pv 6)) (blkOk_by (own := [("_law_one_here", 9)]) (N := ["_law_script", "_law_deck_here", "_law_turn", "_law_house_here", "_law_table_here", "_law_held", "_law_due", "_law_rest", "_law_number_here", "_law_one_here"]) (sc := defScope s_law) (by decide +kernel)) (fun _ _ _ _ _ => (pg_name (i := 9) sc_law.nd rfl (Or.inl rfl))) (fun _ _ _ _ _ => (pts_one (pt_cmpR op_le (pe_ix (ixTK K rfl) (pv 9) pe_int (fun _ _ => rfl)) (pv 8) (nomark _)))) (fun _ _ _ _ _ => pe_int)) (pe_lst pa_nil) (nomark _)))))
        (pss_one (ps_expr (pe_bm PySem.F.plainAttrs_list PySem.F.slot_list_append PySem.F.type_list_append mt_append (pv 6) (pa_cons (pe_tup (pa_cons (pv 7) (pa_cons (pv 8) pa_nil))) pa_nil))))
        pss_nil))))
      (pss_cons (ps_if (pt_cmpR op_ne (pe_callB (id := "repr") (call_show rfl (by show 7 + 64 < cLine; decide)) (by rfl) T.m_repr (by decide +kernel) (pa_cons (pe_lst (pa_cons (pe_call G_stairs (hr.mono (by omega)) (by rfl) T.g_stairs T.F_stairs.kp T.b_stairs .nil pass0 (pa_cons (pv 3) (pa_cons (pv 4) pa_nil))) (pa_cons (pe_call G_stairs (hr.mono (by omega)) (by rfl) T.g_stairs T.F_stairs.kp T.b_stairs .nil pass0 (pa_cons (pv 3) (pa_cons (pv 4) pa_nil))) pa_nil))) pa_nil)) (pe_callB (id := "repr") (call_show rfl (by show 7 + 64 < cLine; decide)) (by rfl) T.m_repr (by decide +kernel) (pa_cons (pe_lst (pa_cons (pe_callTy (T := "tuple") call_tuple_of (by rfl) T.m_tuple (by decide +kernel) (pa_cons (pv 6) pa_nil)) (pa_cons (pe_callTy (T := "tuple") call_tuple_of (by rfl) T.m_tuple (by decide +kernel) (pa_cons (pv 6) pa_nil)) pa_nil))) pa_nil)) (nomark _))
        (pss_one (ps_ret pe_bl))
        pss_nil)
      (pss_one (ps_if (pt_cmpR op_ne (pe_callB (id := "repr") (call_show rfl (by show 7 + 64 < cLine; decide)) (by rfl) T.m_repr (by decide +kernel) (pa_cons (pe_lst (pa_cons (pv 3) (pa_cons (pv 4) pa_nil))) pa_nil)) (pv 5) (nomark _))
        (pss_one (ps_ret pe_bl))
        pss_nil))))))))
      (pss_one (ps_ret pe_bl)))), ?_⟩
  refine ⟨_, rfl, a, ns, rfl, hS, h63, fun p H1 D1 S1 hp => ?_⟩
  have hA1 := (Tabs.of_same S1).tab hT1
  have hA2 := (Tabs.of_same S1).tab hT2
  have hA3 := (Tabs.of_same S1).tab hT3
  have hA4 := (Tabs.of_same S1).tab hT4
  refine ⟨3, rfl, by show -(2 ^ 62) ≤ (3 : Int); decide, by show (3 : Int) < 2 ^ 62; decide, for_range (lo := 0) (n := 3) (fun i σ H' => (∃ y2 y3 y4 y5 y6 y7 y8 y9, σ = [some (.ref a), some (.ref p), y2, y3, y4, y5, y6, y7, y8, y9]) ∧ (GxR.TabG H' T.p_changes_of ∧ GxR.TabG H' T.p_heads_back ∧ GxR.TabG H' T.p_turns ∧ GxR.TabG H' T.p_answered) ∧ ∃ n, n ≤ 500 * i ∧ Deck K H' p n) ⟨⟨none, none, none, none, none, none, none, none, rfl⟩, ⟨hA1, hA2, hA3, hA4⟩, 0, by omega, D1⟩ ?_ ?_⟩
  · rintro i σ H2 hi ⟨⟨y2, y3, y4, y5, y6, y7, y8, y9, rfl⟩, ⟨hB1, hB2, hB3, hB4⟩, n, hn, D2⟩
    refine ⟨_, rfl, p, 9, n, rfl, by decide, D2, by omega, fun z r g1 th J1 hH ht htn D3 K3 => ?_⟩
    obtain ⟨z2, z4, r1, r6, g0, g3, hp9⟩ := id hH
    obtain ⟨g, rfl⟩ : ∃ g : Nat, g1 = (g : Int) := ⟨g1.toNat, (Int.toNat_of_nonneg g0).symm⟩
    have th0 : th ≠ p := D3.ne_tup ht
    refine ⟨_, rfl, _, rfl, th, z, r, g, rfl, SqT.of ht, z2, z4, by omega, by omega, fun x x1 x6 => .inl ⟨x, rfl, 3, x, rfl, ?_⟩⟩
    refine ⟨p, _, n + 4, rfl, by split <;> omega, by split <;> omega, D3, by omega, fun rs tv J2 n2 hT dT hn2 D4 K4 => ?_⟩
    have hrs : TableOf 3 rs := by
      obtain ⟨t1, t2, t3⟩ := hT
      refine ⟨t1, ?_, t3⟩
      split at t2 <;> omega
    have hrs6 : TableOf 6 rs := ⟨hrs.1, by have := hrs.2.1; omega, hrs.2.2⟩
    have lrs := hrs.2.1
    have ht2 := K4.at th0 ht
    have thOf : ∀ M, Grow J2 M → SqT K M th [.int z, .int r, .int (g : Int)] := fun M e => SqT.of (e.at ht2)
    have dHo : ∀ J, Grow J2 J → Dp K J (.ref th) (houseT z r (g : Int)) := fun J k => .tup (thOf J k) (.cons (.int _) (.cons (.int _) (.cons (.int _) .nil)))
    have dTo : ∀ J, Grow J2 J → Dp K J tv (tableD rs) := fun J k => dpSame off_in _ _ ((Keep.of_grow k).dt dT)
    have KH2 := K3.trans K4
    have tbs : ∀ J, Grow J2 J → GxR.TabG J T.p_changes_of ∧ GxR.TabG J T.p_heads_back ∧ GxR.TabG J T.p_turns ∧ GxR.TabG J T.p_answered := fun J k => ⟨(KH2.trans (Keep.of_grow k)).t.tab hB1, (KH2.trans (Keep.of_grow k)).t.tab hB2, (KH2.trans (Keep.of_grow k)).t.tab hB3, (KH2.trans (Keep.of_grow k)).t.tab hB4⟩
    obtain ⟨s1, s2, s3⟩ := (pair_tiny (z := z) (r := r) (g := (g : Int)) (by omega) (by omega) (by omega) hrs6).shows (by decide) (by decide) (by decide)
    have bo : ∀ n : Nat, n < 6 → Both z (1 + (n : Int)) (g : Int) rs := fun n hn => both_rest hH hrs (by omega) (by omega)
    obtain ⟨f, hf⟩ : ∃ f : Nat → V, ∀ n : Nat, GafV z (1 + (n : Int)) (g : Int) (nxS z (1 + (n : Int)) rs) (fun _ => 1) (f n) := ⟨fun n => Classical.choose (gaf_is (g := (g : Int)) z2 (nxS z (1 + (n : Int)) rs)), fun n => Classical.choose_spec (gaf_is (g := (g : Int)) z2 (nxS z (1 + (n : Int)) rs))⟩
    obtain ⟨_, l6⟩ := stairs_down f 6
    obtain ⟨b1, b2, b3⟩ := (stairs_tiny l6 fun q hq => by
      obtain ⟨k, k6, e1, e2⟩ := stairs_in 6 q hq
      have := gaf_le (bo k k6) (by have := hf k; rwa [e2] at this)
      omega).shows (by decide) (by decide) (by decide)
    refine ⟨_, rfl, _, rfl, by show 2 ≤ sizeLine; decide, fun q0 v0 => ?_⟩
    have R1 : Grow J2 (upd J2 q0 (.lst [.ref th, tv])) := Grow.new v0
    refine ⟨.ref q0, .list [houseT z r (g : Int), tableD rs], rfl, .lst (SqL.of upd_same) (.cons (dHo _ R1) (.cons (dTo _ R1) .nil)), s1, s2, s3, ?_⟩
    generalize esh : (PyData.list [houseT z r (g : Int), tableD rs]).shown = sSh
    show tCons _ _ _ (upd J2 q0 (.lst [.ref th, tv])) _
    generalize upd J2 q0 (.lst [.ref th, tv]) = J3 at R1 ⊢
    refine ⟨Nat.zero_le _, fun F FH => ⟨_, _, rfl, ?_⟩⟩
    have GF : Grow J3 (upd J3 F (.lst [])) := Grow.new FH
    have F1 : upd J3 F (.lst []) F = some (.lst []) := upd_same
    have pk : ∀ l : List (Int × Int), isKeyDs (l.map pairD) = true := fun l => keys_all fun d hd => by
      obtain ⟨q, _, rfl⟩ := List.mem_map.mp hd
      rfl
    refine ⟨1, 7, rfl, ⟨by decide, by decide, by decide, by decide⟩, for_range (lo := 1) (n := 6) (fun k σ' J' => ∃ (y7 y8 y9 : Option V) (fs : List V), σ' = [some (.ref a), some (.ref p), some (.int (0 + (i : Int))), some (.ref th), some tv, some (.str sSh), some (.ref F), y7, y8, y9] ∧ Grow J3 J' ∧ J' F = some (.lst fs) ∧ DpAll K J' fs ((stairsL f k).map pairD)) ⟨_, _, _, [], rfl, GF, F1, .nil⟩ ?_ ?_⟩
    · rintro k σ' J hk ⟨y7', y8', y9', fs, rfl, G, hFJ, df⟩
      have lf := dpAll_len df
      rw [List.length_map] at lf
      obtain ⟨dn, le⟩ := stairs_down f k
      have R2 := R1.trans G
      refine ⟨_, rfl, th, _, 0, _, rfl, rfl, thOf _ R2, rfl, _, rfl, _, rfl, th, _, 2, _, rfl, rfl, thOf _ R2, rfl, by show 3 ≤ sizeLine; decide, fun q hq => ?_⟩
      have Gq : Grow J (upd J q (.tup [.int z, .int (1 + (k : Int)), .int (g : Int)])) := Grow.new hq
      have hq1 : upd J q (.tup [.int z, .int (1 + (k : Int)), .int (g : Int)]) q = some (.tup [.int z, .int (1 + (k : Int)), .int (g : Int)]) := upd_same
      show tCons _ _ _ (upd J q (.tup [.int z, .int (1 + (k : Int)), .int (g : Int)])) _
      have hF2 := Gq.at hFJ
      have df2 := growDpAll Gq _ _ df
      have G2 := G.trans Gq
      generalize upd J q (.tup [.int z, .int (1 + (k : Int)), .int (g : Int)]) = J4 at hq1 hF2 df2 G2 ⊢
      refine ⟨_, rfl, q, tv, z, 1 + (k : Int), (g : Int), rs, rfl, SqT.of hq1, dTo _ (R1.trans G2), bo k hk, fun v J4' G23 hv => ?_⟩
      have ev := hv.one (hf k)
      subst ev
      have G3 := G2.trans G23
      have hF3 := G23.at hF2
      have df3 := growDpAll G23 _ _ df2
      have eN : stairsL f (k + 1) = stepA (stairsL f k) (1 + (k : Int)) (f k) := rfl
      rcases hf k with ⟨e0, _⟩ | ⟨m, e0, _⟩
      · rw [e0] at eN ⊢
        exact ⟨_, rfl, rfl, _, rfl, iteF ⟨_, _, _, fs, rfl, G3, hF3, by rw [eN]; exact df3⟩⟩
      · rw [e0] at eN ⊢
        simp only [stepA] at eN
        have eS : (stairsL f k).all (fun p => decide (m < p.2)) = true → stairsL f (k + 1) = stairsL f k ++ [(1 + (k : Int), m)] := fun h => by rw [eN, if_pos h]
        refine ⟨_, rfl, rfl, _, rfl, iteT ?_⟩
        refine ⟨_, rfl, F, rfl, ⟨_, SqL.of hF3⟩, fun C hC => ?_⟩
        refine lc_list (K := K) (a := F) (xs := fs) (fun j G' => Grow J4' G' ∧ ∃ n : Nat, G' C = some (.lst ((List.replicate n (1 : Int)).map V.int)) ∧ n ≤ j ∧ (n = 0 ↔ ((stairsL f k).take j).all (fun p => decide (m < p.2)) = true)) ⟨Grow.new hC, 0, upd_same, Nat.le_refl _, by simp⟩ (fun j G' _ ⟨g', _⟩ => SqL.of (g'.at hF3)) ?_ ?_
        · rintro j x G' hx ⟨g', n, hCG, nj, hn0⟩
          obtain ⟨d, hd, dx⟩ := dpAll_get (growDpAll g' _ _ df3) hx
          rw [List.getElem?_map] at hd
          obtain ⟨pq, hpq, rfl⟩ := Option.map_eq_some_iff.mp hd
          obtain ⟨bq, rfl, hbq⟩ := dp_two dx
          have jl := (List.getElem?_eq_some_iff.mp hx).1
          have tk : (stairsL f k).take (j + 1) = (stairsL f k).take j ++ [pq] := by rw [List.take_add_one, hpq]; rfl
          refine ⟨rfl, ?_⟩
          refine ⟨_, rfl, bq, _, 1, _, rfl, rfl, hbq, rfl, _, rfl, _, _, rfl, rfl, _, rfl, ite2 (fun h => ?_) (fun h => ?_)⟩
          · have hle : pq.2 ≤ m := of_decide_eq_true h
            refine ⟨_, hCG, Nat.lt_of_le_of_lt (by rw [List.length_map, List.length_replicate]; omega : _ ≤ 100) (by decide), g'.write hC, n + 1, ?_, by omega, ?_⟩
            · rw [upd_same, List.replicate_succ', List.map_append]
              rfl
            · constructor
              · intro e
                cases e
              · intro e
                rw [tk, List.all_append, Bool.and_eq_true] at e
                have := e.2
                simp only [List.all_cons, List.all_nil, Bool.and_true, decide_eq_true_eq] at this
                omega
          · have hlt : m < pq.2 := by
              have : ¬ pq.2 ≤ m := fun e => h (decide_eq_true e)
              omega
            refine ⟨g', n, hCG, by omega, ?_⟩
            rw [tk, List.all_append, hn0]
            simp [hlt]
        · rintro G' ⟨g', n, hCG, nj, hn0⟩
          rw [List.take_of_length_le (by omega)] at hn0
          have hF4 := g'.at hF3
          refine ⟨Nat.zero_le _, fun e he => ?_⟩
          have Ge : Grow G' (upd G' e (.lst [])) := Grow.new he
          have hC5 := Ge.at hCG
          have hF5 := Ge.at hF4
          have G5 := (G3.trans g').trans Ge
          have df5 := growDpAll (g'.trans Ge) _ _ df3
          refine ⟨.list ((List.replicate n (1 : Int)).map PyData.int), .list [], .lst (SqL.of hC5) (ints_dp _), .lst (SqL.of upd_same) .nil, ints_shaped _, by decide, ?_⟩
          rw [ints_nil]
          generalize upd G' e (.lst []) = J5 at *
          refine ⟨_, rfl, ite2 (fun h => ?_) (fun h => ?_)⟩
          · have hall : (stairsL f k).all (fun p => decide (m < p.2)) = true := by
              refine hn0.mp ?_
              cases n with
              | zero => rfl
              | succ n => simp at h
            refine ⟨_, rfl, .inl ⟨rfl, _, SqL.of hF5⟩, _, rfl, _, rfl, by show 2 ≤ sizeLine; decide, fun q2 hq2 => ?_⟩
            have Gq2 : Grow J5 (upd J5 q2 (.tup [.int (1 + (k : Int)), .int m])) := Grow.new hq2
            have hF6 := Gq2.at hF5
            refine ⟨F, fs, _, rfl, rfl, hF6, Nat.lt_of_le_of_lt (by omega : fs.length ≤ 100) (by decide), ?_⟩
            have kW : TupK (upd J5 q2 (.tup [.int (1 + (k : Int)), .int m])) (upd (upd J5 q2 (.tup [.int (1 + (k : Int)), .int m])) F (.lst (fs ++ [.ref q2]))) := TupK.lst hF6
            refine ⟨_, _, _, fs ++ [.ref q2], rfl, (G5.trans Gq2).write FH, upd_same, ?_⟩
            rw [eS hall, List.map_append]
            exact dpAll_snoc (kW.keys _ _ (pk _) (growDpAll Gq2 _ _ df5)) (kW.key _ _ rfl (.tup (SqT.of upd_same) (.cons (.int _) (.cons (.int _) .nil))))
          · refine ⟨_, _, _, fs, rfl, G5, hF5, ?_⟩
            rw [eN, if_neg fun e2 => h (by rw [hn0.mpr e2]; rfl)]
            exact df5
    · rintro σ' J ⟨y7', y8', y9', fs, rfl, G, hFJ, df⟩
      have R2 := R1.trans G
      obtain ⟨t1, t2, t3, t4⟩ := tbs J R2
      refine ⟨_, rfl, _, rfl, .ref th, tv, z, r, (g : Int), rs, f, rfl, dHo _ R2, dTo _ R2, bo, fun n _ => hf n, t1, t2, t3, t4, fun u1 p1 J5 G5 h1 d1 => ?_⟩
      have R5 := R2.trans G5
      obtain ⟨t1, t2, t3, t4⟩ := tbs J5 R5
      refine ⟨_, rfl, _, rfl, .ref th, tv, z, r, (g : Int), rs, f, rfl, dHo _ R5, dTo _ R5, bo, fun n _ => hf n, t1, t2, t3, t4, fun u2 p2 J6 G6 h2 d2 => ?_⟩
      have R6 := R5.trans G6
      refine ⟨by show 2 ≤ sizeLine; decide, fun q hq => ?_⟩
      have Gq : Grow J6 (upd J6 q (.lst [.ref u1, .ref u2])) := Grow.new hq
      refine ⟨.ref q, .list [.tuple ((stairsL f 6).map pairD), .tuple ((stairsL f 6).map pairD)], rfl, .lst (SqL.of upd_same) (.cons (.tup (SqT.of ((G6.trans Gq).at h1)) (growDpAll (G6.trans Gq) _ _ d1)) (.cons (.tup (SqT.of (Gq.at h2)) (growDpAll Gq _ _ d2)) .nil)), b1, b2, b3, ?_⟩
      generalize esL : (PyData.list [.tuple ((stairsL f 6).map pairD), .tuple ((stairsL f 6).map pairD)]).shown = sL
      have G7 := (G5.trans G6).trans Gq
      have hF7 := G7.at hFJ
      have df7 := growDpAll G7 _ _ df
      have R7 := R2.trans G7
      generalize upd J6 q (.lst [.ref u1, .ref u2]) = J7 at hF7 df7 R7 ⊢
      refine ⟨_, rfl, F, _, rfl, .inl ⟨SqL.of hF7, fun v1 hv1 => ?_⟩⟩
      have Gv1 : Grow J7 (upd J7 v1 (.tup fs)) := Grow.new hv1
      have hv1' : upd J7 v1 (.tup fs) v1 = some (.tup fs) := upd_same
      have hF8 := Gv1.at hF7
      have df8 := growDpAll Gv1 _ _ df7
      have R8 := R7.trans Gv1
      show tCons _ _ _ (upd J7 v1 (.tup fs)) _
      generalize upd J7 v1 (.tup fs) = J8 at hv1' hF8 df8 R8 ⊢
      refine ⟨_, rfl, F, _, rfl, .inl ⟨SqL.of hF8, fun v2 hv2 => ⟨by show 2 ≤ sizeLine; decide, fun q2 hq2 => ?_⟩⟩⟩
      have Gv2 : Grow J8 (upd J8 v2 (.tup fs)) := Grow.new hv2
      have Gq2 : Grow (upd J8 v2 (.tup fs)) (upd (upd J8 v2 (.tup fs)) q2 (.lst [.ref v1, .ref v2])) := Grow.new hq2
      refine ⟨.ref q2, .list [.tuple ((stairsL f 6).map pairD), .tuple ((stairsL f 6).map pairD)], rfl, .lst (SqL.of upd_same) (.cons (.tup (SqT.of ((Gv2.trans Gq2).at hv1')) (growDpAll (Gv2.trans Gq2) _ _ df8)) (.cons (.tup (SqT.of (Gq2.at upd_same)) (growDpAll (Gv2.trans Gq2) _ _ df8)) .nil)), b1, b2, b3, ?_⟩
      rw [esL]
      have R9 := (R8.trans Gv2).trans Gq2
      generalize upd (upd J8 v2 (.tup fs)) q2 (.lst [.ref v1, .ref v2]) = J9 at R9 ⊢
      refine ⟨rfl, _, rfl, ite2 (fun h => by exfalso; simp at h) (fun _ => ?_)⟩
      refine ⟨_, rfl, _, rfl, by show 2 ≤ sizeLine; decide, fun q3 v3 => ?_⟩
      have R12 := R9.trans (Grow.new v3 (o := .lst [.ref th, tv]))
      refine ⟨.ref q3, .list [houseT z r (g : Int), tableD rs], rfl, .lst (SqL.of upd_same) (.cons (dHo _ R12) (.cons (dTo _ R12) .nil)), s1, s2, s3, _, rfl, ?_⟩
      rw [esh]
      refine ⟨rfl, _, rfl, ite2 (fun h => by exfalso; simp at h) (fun _ => ?_)⟩
      exact ⟨⟨_, _, _, _, _, _, _, _, rfl⟩, tbs _ R12, n2, by omega, D4.of_grow R12⟩
  · rintro σ H2 ⟨⟨y2, y3, y4, y5, y6, y7, y8, y9, rfl⟩, _, n, hn, D2⟩
    rfl
end

theorem all_mk {l : PySem.W.OpenLaw} {w : World} {K : PySem.W.Frag} {h : Heap} {mg : Str → Option Value} {fa : Addr} (X : K.In h) (G : h.Ns mainGlobals mg) (hfa : mg "law" = some (.ref fa))
    {f0 : Addr} {od0 an0 : Option Addr} {sl0 : Array (Option Value)} {oc0 kV0 dc0 pm0 ct0 : Value} {cd0 : Value}
    (a0 : PySem.W.nsIn K mainGlobals "whole" = some (some (.ref f0))) (l0 : K.lookup f0 = some ⟨oc0, od0, .func (PySem.W.fnOf "whole" "whole" (defArgs s_whole) (defBody s_whole) (defScope s_whole) .none kV0 dc0 pm0 an0 cd0 ct0), sl0⟩) (c0 : PySem.W.codeIn K cd0 "whole" = true) (k0 : PySem.W.keepIn K (.ref f0) = true)
    {f1 : Addr} {od1 an1 : Option Addr} {sl1 : Array (Option Value)} {oc1 kV1 dc1 pm1 ct1 : Value} {cc1 pp1 : Addr} {oo1 : Obj}
    (a1 : PySem.W.nsIn K mainGlobals "changes_of" = some (some (.ref f1))) (l1 : K.lookup f1 = some ⟨oc1, od1, .func (PySem.W.fnOf "changes_of" "changes_of" (defArgs s_changes_of) (defBody s_changes_of) (defScope s_changes_of) .none kV1 dc1 pm1 an1 (.ref cc1) ct1), sl1⟩) (c1 : PySem.W.codeIn K (.ref cc1) "changes_of" = true) (k1 : PySem.W.keepIn K (.ref f1) = true)
    (u1 : K.lookup cc1 = some oo1) (v1 : TabField oo1 pp1) (y1 : K.lookup pp1 = none) (tk1 : CodeKnown mg h "changes_of")
    {f2 : Addr} {od2 an2 : Option Addr} {sl2 : Array (Option Value)} {oc2 kV2 dc2 pm2 ct2 : Value} {cd2 : Value}
    (a2 : PySem.W.nsIn K mainGlobals "is_course" = some (some (.ref f2))) (l2 : K.lookup f2 = some ⟨oc2, od2, .func (PySem.W.fnOf "is_course" "is_course" (defArgs s_is_course) (defBody s_is_course) (defScope s_is_course) .none kV2 dc2 pm2 an2 cd2 ct2), sl2⟩) (c2 : PySem.W.codeIn K cd2 "is_course" = true) (k2 : PySem.W.keepIn K (.ref f2) = true)
    {f3 : Addr} {od3 an3 : Option Addr} {sl3 : Array (Option Value)} {oc3 kV3 dc3 pm3 ct3 : Value} {cc3 pp3 : Addr} {oo3 : Obj}
    (a3 : PySem.W.nsIn K mainGlobals "heads_back" = some (some (.ref f3))) (l3 : K.lookup f3 = some ⟨oc3, od3, .func (PySem.W.fnOf "heads_back" "heads_back" (defArgs s_heads_back) (defBody s_heads_back) (defScope s_heads_back) .none kV3 dc3 pm3 an3 (.ref cc3) ct3), sl3⟩) (c3 : PySem.W.codeIn K (.ref cc3) "heads_back" = true) (k3 : PySem.W.keepIn K (.ref f3) = true)
    (u3 : K.lookup cc3 = some oo3) (v3 : TabField oo3 pp3) (y3 : K.lookup pp3 = none) (tk3 : CodeKnown mg h "heads_back")
    {f4 : Addr} {od4 an4 : Option Addr} {sl4 : Array (Option Value)} {oc4 kV4 dc4 pm4 ct4 : Value} {cd4 : Value}
    (a4 : PySem.W.nsIn K mainGlobals "named_by" = some (some (.ref f4))) (l4 : K.lookup f4 = some ⟨oc4, od4, .func (PySem.W.fnOf "named_by" "named_by" (defArgs s_named_by) (defBody s_named_by) (defScope s_named_by) .none kV4 dc4 pm4 an4 cd4 ct4), sl4⟩) (c4 : PySem.W.codeIn K cd4 "named_by" = true) (k4 : PySem.W.keepIn K (.ref f4) = true)
    {f5 : Addr} {od5 an5 : Option Addr} {sl5 : Array (Option Value)} {oc5 kV5 dc5 pm5 ct5 : Value} {cd5 : Value}
    (a5 : PySem.W.nsIn K mainGlobals "asks" = some (some (.ref f5))) (l5 : K.lookup f5 = some ⟨oc5, od5, .func (PySem.W.fnOf "asks" "asks" (defArgs s_asks) (defBody s_asks) (defScope s_asks) .none kV5 dc5 pm5 an5 cd5 ct5), sl5⟩) (c5 : PySem.W.codeIn K cd5 "asks" = true) (k5 : PySem.W.keepIn K (.ref f5) = true)
    {f6 : Addr} {od6 an6 : Option Addr} {sl6 : Array (Option Value)} {oc6 kV6 dc6 pm6 ct6 : Value} {cd6 : Value}
    (a6 : PySem.W.nsIn K mainGlobals "behind" = some (some (.ref f6))) (l6 : K.lookup f6 = some ⟨oc6, od6, .func (PySem.W.fnOf "behind" "behind" (defArgs s_behind) (defBody s_behind) (defScope s_behind) .none kV6 dc6 pm6 an6 cd6 ct6), sl6⟩) (c6 : PySem.W.codeIn K cd6 "behind" = true) (k6 : PySem.W.keepIn K (.ref f6) = true)
    {f7 : Addr} {od7 an7 : Option Addr} {sl7 : Array (Option Value)} {oc7 kV7 dc7 pm7 ct7 : Value} {cd7 : Value}
    (a7 : PySem.W.nsIn K mainGlobals "hold_of" = some (some (.ref f7))) (l7 : K.lookup f7 = some ⟨oc7, od7, .func (PySem.W.fnOf "hold_of" "hold_of" (defArgs s_hold_of) (defBody s_hold_of) (defScope s_hold_of) .none kV7 dc7 pm7 an7 cd7 ct7), sl7⟩) (c7 : PySem.W.codeIn K cd7 "hold_of" = true) (k7 : PySem.W.keepIn K (.ref f7) = true)
    {f8 : Addr} {od8 an8 : Option Addr} {sl8 : Array (Option Value)} {oc8 kV8 dc8 pm8 ct8 : Value} {cd8 : Value}
    (a8 : PySem.W.nsIn K mainGlobals "beginnings" = some (some (.ref f8))) (l8 : K.lookup f8 = some ⟨oc8, od8, .func (PySem.W.fnOf "beginnings" "beginnings" (defArgs s_beginnings) (defBody s_beginnings) (defScope s_beginnings) .none kV8 dc8 pm8 an8 cd8 ct8), sl8⟩) (c8 : PySem.W.codeIn K cd8 "beginnings" = true) (k8 : PySem.W.keepIn K (.ref f8) = true)
    {f9 : Addr} {od9 an9 : Option Addr} {sl9 : Array (Option Value)} {oc9 kV9 dc9 pm9 ct9 : Value} {cd9 : Value}
    (a9 : PySem.W.nsIn K mainGlobals "firsts" = some (some (.ref f9))) (l9 : K.lookup f9 = some ⟨oc9, od9, .func (PySem.W.fnOf "firsts" "firsts" (defArgs s_firsts) (defBody s_firsts) (defScope s_firsts) .none kV9 dc9 pm9 an9 cd9 ct9), sl9⟩) (c9 : PySem.W.codeIn K cd9 "firsts" = true) (k9 : PySem.W.keepIn K (.ref f9) = true)
    {f10 : Addr} {od10 an10 : Option Addr} {sl10 : Array (Option Value)} {oc10 kV10 dc10 pm10 ct10 : Value} {cd10 : Value}
    (a10 : PySem.W.nsIn K mainGlobals "may_name" = some (some (.ref f10))) (l10 : K.lookup f10 = some ⟨oc10, od10, .func (PySem.W.fnOf "may_name" "may_name" (defArgs s_may_name) (defBody s_may_name) (defScope s_may_name) .none kV10 dc10 pm10 an10 cd10 ct10), sl10⟩) (c10 : PySem.W.codeIn K cd10 "may_name" = true) (k10 : PySem.W.keepIn K (.ref f10) = true)
    {f11 : Addr} {od11 an11 : Option Addr} {sl11 : Array (Option Value)} {oc11 kV11 dc11 pm11 ct11 : Value} {cc11 pp11 : Addr} {oo11 : Obj}
    (a11 : PySem.W.nsIn K mainGlobals "turns" = some (some (.ref f11))) (l11 : K.lookup f11 = some ⟨oc11, od11, .func (PySem.W.fnOf "turns" "turns" (defArgs s_turns) (defBody s_turns) (defScope s_turns) .none kV11 dc11 pm11 an11 (.ref cc11) ct11), sl11⟩) (c11 : PySem.W.codeIn K (.ref cc11) "turns" = true) (k11 : PySem.W.keepIn K (.ref f11) = true)
    (u11 : K.lookup cc11 = some oo11) (v11 : TabField oo11 pp11) (y11 : K.lookup pp11 = none) (tk11 : CodeKnown mg h "turns")
    {f12 : Addr} {od12 an12 : Option Addr} {sl12 : Array (Option Value)} {oc12 kV12 dc12 pm12 ct12 : Value} {cc12 pp12 : Addr} {oo12 : Obj}
    (a12 : PySem.W.nsIn K mainGlobals "answered" = some (some (.ref f12))) (l12 : K.lookup f12 = some ⟨oc12, od12, .func (PySem.W.fnOf "answered" "answered" (defArgs s_answered) (defBody s_answered) (defScope s_answered) .none kV12 dc12 pm12 an12 (.ref cc12) ct12), sl12⟩) (c12 : PySem.W.codeIn K (.ref cc12) "answered" = true) (k12 : PySem.W.keepIn K (.ref f12) = true)
    (u12 : K.lookup cc12 = some oo12) (v12 : TabField oo12 pp12) (y12 : K.lookup pp12 = none) (tk12 : CodeKnown mg h "answered")
    {f13 : Addr} {od13 an13 : Option Addr} {sl13 : Array (Option Value)} {oc13 kV13 dc13 pm13 ct13 : Value} {cd13 : Value}
    (a13 : PySem.W.nsIn K mainGlobals "goes_to" = some (some (.ref f13))) (l13 : K.lookup f13 = some ⟨oc13, od13, .func (PySem.W.fnOf "goes_to" "goes_to" (defArgs s_goes_to) (defBody s_goes_to) (defScope s_goes_to) .none kV13 dc13 pm13 an13 cd13 ct13), sl13⟩) (c13 : PySem.W.codeIn K cd13 "goes_to" = true) (k13 : PySem.W.keepIn K (.ref f13) = true)
    {f14 : Addr} {od14 an14 : Option Addr} {sl14 : Array (Option Value)} {oc14 kV14 dc14 pm14 ct14 : Value} {cd14 : Value}
    (a14 : PySem.W.nsIn K mainGlobals "leads_of" = some (some (.ref f14))) (l14 : K.lookup f14 = some ⟨oc14, od14, .func (PySem.W.fnOf "leads_of" "leads_of" (defArgs s_leads_of) (defBody s_leads_of) (defScope s_leads_of) .none kV14 dc14 pm14 an14 cd14 ct14), sl14⟩) (c14 : PySem.W.codeIn K cd14 "leads_of" = true) (k14 : PySem.W.keepIn K (.ref f14) = true)
    {f15 : Addr} {od15 an15 : Option Addr} {sl15 : Array (Option Value)} {oc15 kV15 dc15 pm15 ct15 : Value} {cd15 : Value}
    (a15 : PySem.W.nsIn K mainGlobals "ways_back" = some (some (.ref f15))) (l15 : K.lookup f15 = some ⟨oc15, od15, .func (PySem.W.fnOf "ways_back" "ways_back" (defArgs s_ways_back) (defBody s_ways_back) (defScope s_ways_back) .none kV15 dc15 pm15 an15 cd15 ct15), sl15⟩) (c15 : PySem.W.codeIn K cd15 "ways_back" = true) (k15 : PySem.W.keepIn K (.ref f15) = true)
    {f16 : Addr} {od16 an16 : Option Addr} {sl16 : Array (Option Value)} {oc16 kV16 dc16 pm16 ct16 : Value} {cd16 : Value}
    (a16 : PySem.W.nsIn K mainGlobals "served_order" = some (some (.ref f16))) (l16 : K.lookup f16 = some ⟨oc16, od16, .func (PySem.W.fnOf "served_order" "served_order" (defArgs s_served_order) (defBody s_served_order) (defScope s_served_order) .none kV16 dc16 pm16 an16 cd16 ct16), sl16⟩) (c16 : PySem.W.codeIn K cd16 "served_order" = true) (k16 : PySem.W.keepIn K (.ref f16) = true)
    {f17 : Addr} {od17 an17 : Option Addr} {sl17 : Array (Option Value)} {oc17 kV17 dc17 pm17 ct17 : Value} {cd17 : Value}
    (a17 : PySem.W.nsIn K mainGlobals "greatest_costs" = some (some (.ref f17))) (l17 : K.lookup f17 = some ⟨oc17, od17, .func (PySem.W.fnOf "greatest_costs" "greatest_costs" (defArgs s_greatest_costs) (defBody s_greatest_costs) (defScope s_greatest_costs) .none kV17 dc17 pm17 an17 cd17 ct17), sl17⟩) (c17 : PySem.W.codeIn K cd17 "greatest_costs" = true) (k17 : PySem.W.keepIn K (.ref f17) = true)
    {f18 : Addr} {od18 an18 : Option Addr} {sl18 : Array (Option Value)} {oc18 kV18 dc18 pm18 ct18 : Value} {cd18 : Value}
    (a18 : PySem.W.nsIn K mainGlobals "moments_left" = some (some (.ref f18))) (l18 : K.lookup f18 = some ⟨oc18, od18, .func (PySem.W.fnOf "moments_left" "moments_left" (defArgs s_moments_left) (defBody s_moments_left) (defScope s_moments_left) .none kV18 dc18 pm18 an18 cd18 ct18), sl18⟩) (c18 : PySem.W.codeIn K cd18 "moments_left" = true) (k18 : PySem.W.keepIn K (.ref f18) = true)
    {f19 : Addr} {od19 an19 : Option Addr} {sl19 : Array (Option Value)} {oc19 kV19 dc19 pm19 ct19 : Value} {cd19 : Value}
    (a19 : PySem.W.nsIn K mainGlobals "greatest_at_first" = some (some (.ref f19))) (l19 : K.lookup f19 = some ⟨oc19, od19, .func (PySem.W.fnOf "greatest_at_first" "greatest_at_first" (defArgs s_greatest_at_first) (defBody s_greatest_at_first) (defScope s_greatest_at_first) .none kV19 dc19 pm19 an19 cd19 ct19), sl19⟩) (c19 : PySem.W.codeIn K cd19 "greatest_at_first" = true) (k19 : PySem.W.keepIn K (.ref f19) = true)
    {f20 : Addr} {od20 an20 : Option Addr} {sl20 : Array (Option Value)} {oc20 kV20 dc20 pm20 ct20 : Value} {cd20 : Value}
    (a20 : PySem.W.nsIn K mainGlobals "latest" = some (some (.ref f20))) (l20 : K.lookup f20 = some ⟨oc20, od20, .func (PySem.W.fnOf "latest" "latest" (defArgs s_latest) (defBody s_latest) (defScope s_latest) .none kV20 dc20 pm20 an20 cd20 ct20), sl20⟩) (c20 : PySem.W.codeIn K cd20 "latest" = true) (k20 : PySem.W.keepIn K (.ref f20) = true)
    {f21 : Addr} {od21 an21 : Option Addr} {sl21 : Array (Option Value)} {oc21 kV21 dc21 pm21 ct21 : Value} {cd21 : Value}
    (a21 : PySem.W.nsIn K mainGlobals "stairs" = some (some (.ref f21))) (l21 : K.lookup f21 = some ⟨oc21, od21, .func (PySem.W.fnOf "stairs" "stairs" (defArgs s_stairs) (defBody s_stairs) (defScope s_stairs) .none kV21 dc21 pm21 an21 cd21 ct21), sl21⟩) (c21 : PySem.W.codeIn K cd21 "stairs" = true) (k21 : PySem.W.keepIn K (.ref f21) = true)
    {f22 : Addr} {od22 an22 : Option Addr} {sl22 : Array (Option Value)} {oc22 kV22 dc22 pm22 ct22 : Value} {cd22 : Value}
    (a22 : PySem.W.nsIn K mainGlobals "_law_deck" = some (some (.ref f22))) (l22 : K.lookup f22 = some ⟨oc22, od22, .func (PySem.W.fnOf "_law_deck" "_law_deck" (defArgs s_deck) (defBody s_deck) (defScope s_deck) .none kV22 dc22 pm22 an22 cd22 ct22), sl22⟩) (c22 : PySem.W.codeIn K cd22 "_law_deck" = true) (k22 : PySem.W.keepIn K (.ref f22) = true)
    {f23 : Addr} {od23 an23 : Option Addr} {sl23 : Array (Option Value)} {oc23 kV23 dc23 pm23 ct23 : Value} {cd23 : Value}
    (a23 : PySem.W.nsIn K mainGlobals "_law_draw" = some (some (.ref f23))) (l23 : K.lookup f23 = some ⟨oc23, od23, .func (PySem.W.fnOf "_law_draw" "_law_draw" (defArgs s_draw) (defBody s_draw) (defScope s_draw) .none kV23 dc23 pm23 an23 cd23 ct23), sl23⟩) (c23 : PySem.W.codeIn K cd23 "_law_draw" = true) (k23 : PySem.W.keepIn K (.ref f23) = true)
    {f24 : Addr} {od24 an24 : Option Addr} {sl24 : Array (Option Value)} {oc24 kV24 dc24 pm24 ct24 : Value} {cd24 : Value}
    (a24 : PySem.W.nsIn K mainGlobals "_law_one" = some (some (.ref f24))) (l24 : K.lookup f24 = some ⟨oc24, od24, .func (PySem.W.fnOf "_law_one" "_law_one" (defArgs s_one) (defBody s_one) (defScope s_one) .none kV24 dc24 pm24 an24 cd24 ct24), sl24⟩) (c24 : PySem.W.codeIn K cd24 "_law_one" = true) (k24 : PySem.W.keepIn K (.ref f24) = true)
    {f25 : Addr} {od25 an25 : Option Addr} {sl25 : Array (Option Value)} {oc25 kV25 dc25 pm25 ct25 : Value} {cd25 : Value}
    (a25 : PySem.W.nsIn K mainGlobals "_law_power" = some (some (.ref f25))) (l25 : K.lookup f25 = some ⟨oc25, od25, .func (PySem.W.fnOf "_law_power" "_law_power" (defArgs s_power) (defBody s_power) (defScope s_power) .none kV25 dc25 pm25 an25 cd25 ct25), sl25⟩) (c25 : PySem.W.codeIn K cd25 "_law_power" = true) (k25 : PySem.W.keepIn K (.ref f25) = true)
    {f26 : Addr} {od26 an26 : Option Addr} {sl26 : Array (Option Value)} {oc26 kV26 dc26 pm26 ct26 : Value} {cd26 : Value}
    (a26 : PySem.W.nsIn K mainGlobals "_law_house" = some (some (.ref f26))) (l26 : K.lookup f26 = some ⟨oc26, od26, .func (PySem.W.fnOf "_law_house" "_law_house" (defArgs s_house) (defBody s_house) (defScope s_house) .none kV26 dc26 pm26 an26 cd26 ct26), sl26⟩) (c26 : PySem.W.codeIn K cd26 "_law_house" = true) (k26 : PySem.W.keepIn K (.ref f26) = true)
    {f27 : Addr} {od27 an27 : Option Addr} {sl27 : Array (Option Value)} {oc27 kV27 dc27 pm27 ct27 : Value} {cd27 : Value}
    (a27 : PySem.W.nsIn K mainGlobals "_law_rest_kept" = some (some (.ref f27))) (l27 : K.lookup f27 = some ⟨oc27, od27, .func (PySem.W.fnOf "_law_rest_kept" "_law_rest_kept" (defArgs s_rest_kept) (defBody s_rest_kept) (defScope s_rest_kept) .none kV27 dc27 pm27 an27 cd27 ct27), sl27⟩) (c27 : PySem.W.codeIn K cd27 "_law_rest_kept" = true) (k27 : PySem.W.keepIn K (.ref f27) = true)
    {f28 : Addr} {od28 an28 : Option Addr} {sl28 : Array (Option Value)} {oc28 kV28 dc28 pm28 ct28 : Value} {cd28 : Value}
    (a28 : PySem.W.nsIn K mainGlobals "_law_table" = some (some (.ref f28))) (l28 : K.lookup f28 = some ⟨oc28, od28, .func (PySem.W.fnOf "_law_table" "_law_table" (defArgs s_table) (defBody s_table) (defScope s_table) .none kV28 dc28 pm28 an28 cd28 ct28), sl28⟩) (c28 : PySem.W.codeIn K cd28 "_law_table" = true) (k28 : PySem.W.keepIn K (.ref f28) = true)
    {f29 : Addr} {od29 an29 : Option Addr} {sl29 : Array (Option Value)} {oc29 kV29 dc29 pm29 ct29 : Value} {cd29 : Value}
    (a29 : PySem.W.nsIn K mainGlobals "_law_rows_that_fit" = some (some (.ref f29))) (l29 : K.lookup f29 = some ⟨oc29, od29, .func (PySem.W.fnOf "_law_rows_that_fit" "_law_rows_that_fit" (defArgs s_rows_that_fit) (defBody s_rows_that_fit) (defScope s_rows_that_fit) .none kV29 dc29 pm29 an29 cd29 ct29), sl29⟩) (c29 : PySem.W.codeIn K cd29 "_law_rows_that_fit" = true) (k29 : PySem.W.keepIn K (.ref f29) = true)
    {f30 : Addr} {od30 an30 : Option Addr} {sl30 : Array (Option Value)} {oc30 kV30 dc30 pm30 ct30 : Value} {cd30 : Value}
    (a30 : PySem.W.nsIn K mainGlobals "_law_asked" = some (some (.ref f30))) (l30 : K.lookup f30 = some ⟨oc30, od30, .func (PySem.W.fnOf "_law_asked" "_law_asked" (defArgs s_asked) (defBody s_asked) (defScope s_asked) .none kV30 dc30 pm30 an30 cd30 ct30), sl30⟩) (c30 : PySem.W.codeIn K cd30 "_law_asked" = true) (k30 : PySem.W.keepIn K (.ref f30) = true)
    {f31 : Addr} {od31 an31 : Option Addr} {sl31 : Array (Option Value)} {oc31 kV31 dc31 pm31 ct31 : Value} {cd31 : Value}
    (a31 : PySem.W.nsIn K mainGlobals "_law_later" = some (some (.ref f31))) (l31 : K.lookup f31 = some ⟨oc31, od31, .func (PySem.W.fnOf "_law_later" "_law_later" (defArgs s_later) (defBody s_later) (defScope s_later) .none kV31 dc31 pm31 an31 cd31 ct31), sl31⟩) (c31 : PySem.W.codeIn K cd31 "_law_later" = true) (k31 : PySem.W.keepIn K (.ref f31) = true)
    {f32 : Addr} {od32 an32 : Option Addr} {sl32 : Array (Option Value)} {oc32 kV32 dc32 pm32 ct32 : Value} {cd32 : Value}
    (a32 : PySem.W.nsIn K mainGlobals "_law_hold" = some (some (.ref f32))) (l32 : K.lookup f32 = some ⟨oc32, od32, .func (PySem.W.fnOf "_law_hold" "_law_hold" (defArgs s_hold) (defBody s_hold) (defScope s_hold) .none kV32 dc32 pm32 an32 cd32 ct32), sl32⟩) (c32 : PySem.W.codeIn K cd32 "_law_hold" = true) (k32 : PySem.W.keepIn K (.ref f32) = true)
    {f33 : Addr} {od33 an33 : Option Addr} {sl33 : Array (Option Value)} {oc33 kV33 dc33 pm33 ct33 : Value} {cd33 : Value}
    (a33 : PySem.W.nsIn K mainGlobals "_law_firsts" = some (some (.ref f33))) (l33 : K.lookup f33 = some ⟨oc33, od33, .func (PySem.W.fnOf "_law_firsts" "_law_firsts" (defArgs s_l_firsts) (defBody s_l_firsts) (defScope s_l_firsts) .none kV33 dc33 pm33 an33 cd33 ct33), sl33⟩) (c33 : PySem.W.codeIn K cd33 "_law_firsts" = true) (k33 : PySem.W.keepIn K (.ref f33) = true)
    {f34 : Addr} {od34 an34 : Option Addr} {sl34 : Array (Option Value)} {oc34 kV34 dc34 pm34 ct34 : Value} {cd34 : Value}
    (a34 : PySem.W.nsIn K mainGlobals "_law_on" = some (some (.ref f34))) (l34 : K.lookup f34 = some ⟨oc34, od34, .func (PySem.W.fnOf "_law_on" "_law_on" (defArgs s_on) (defBody s_on) (defScope s_on) .none kV34 dc34 pm34 an34 cd34 ct34), sl34⟩) (c34 : PySem.W.codeIn K cd34 "_law_on" = true) (k34 : PySem.W.keepIn K (.ref f34) = true)
    {f35 : Addr} {od35 an35 : Option Addr} {sl35 : Array (Option Value)} {oc35 kV35 dc35 pm35 ct35 : Value} {cd35 : Value}
    (a35 : PySem.W.nsIn K mainGlobals "_law_said" = some (some (.ref f35))) (l35 : K.lookup f35 = some ⟨oc35, od35, .func (PySem.W.fnOf "_law_said" "_law_said" (defArgs s_said) (defBody s_said) (defScope s_said) .none kV35 dc35 pm35 an35 cd35 ct35), sl35⟩) (c35 : PySem.W.codeIn K cd35 "_law_said" = true) (k35 : PySem.W.keepIn K (.ref f35) = true)
    {f36 : Addr} {od36 an36 : Option Addr} {sl36 : Array (Option Value)} {oc36 kV36 dc36 pm36 ct36 : Value} {cd36 : Value}
    (a36 : PySem.W.nsIn K mainGlobals "_law_goes" = some (some (.ref f36))) (l36 : K.lookup f36 = some ⟨oc36, od36, .func (PySem.W.fnOf "_law_goes" "_law_goes" (defArgs s_goes) (defBody s_goes) (defScope s_goes) .none kV36 dc36 pm36 an36 cd36 ct36), sl36⟩) (c36 : PySem.W.codeIn K cd36 "_law_goes" = true) (k36 : PySem.W.keepIn K (.ref f36) = true)
    {f37 : Addr} {od37 an37 : Option Addr} {sl37 : Array (Option Value)} {oc37 kV37 dc37 pm37 ct37 : Value} {cd37 : Value}
    (a37 : PySem.W.nsIn K mainGlobals "_law_reached" = some (some (.ref f37))) (l37 : K.lookup f37 = some ⟨oc37, od37, .func (PySem.W.fnOf "_law_reached" "_law_reached" (defArgs s_reached) (defBody s_reached) (defScope s_reached) .none kV37 dc37 pm37 an37 cd37 ct37), sl37⟩) (c37 : PySem.W.codeIn K cd37 "_law_reached" = true) (k37 : PySem.W.keepIn K (.ref f37) = true)
    {f38 : Addr} {od38 an38 : Option Addr} {sl38 : Array (Option Value)} {oc38 kV38 dc38 pm38 ct38 : Value} {cd38 : Value}
    (a38 : PySem.W.nsIn K mainGlobals "_law_numbers" = some (some (.ref f38))) (l38 : K.lookup f38 = some ⟨oc38, od38, .func (PySem.W.fnOf "_law_numbers" "_law_numbers" (defArgs s_numbers) (defBody s_numbers) (defScope s_numbers) .none kV38 dc38 pm38 an38 cd38 ct38), sl38⟩) (c38 : PySem.W.codeIn K cd38 "_law_numbers" = true) (k38 : PySem.W.keepIn K (.ref f38) = true)
    {f39 : Addr} {od39 an39 : Option Addr} {sl39 : Array (Option Value)} {oc39 kV39 dc39 pm39 ct39 : Value} {cd39 : Value}
    (a39 : PySem.W.nsIn K mainGlobals "_law_number" = some (some (.ref f39))) (l39 : K.lookup f39 = some ⟨oc39, od39, .func (PySem.W.fnOf "_law_number" "_law_number" (defArgs s_number) (defBody s_number) (defScope s_number) .none kV39 dc39 pm39 an39 cd39 ct39), sl39⟩) (c39 : PySem.W.codeIn K cd39 "_law_number" = true) (k39 : PySem.W.keepIn K (.ref f39) = true)
    {f40 : Addr} {od40 an40 : Option Addr} {sl40 : Array (Option Value)} {oc40 kV40 dc40 pm40 ct40 : Value} {cd40 : Value}
    (a40 : PySem.W.nsIn K mainGlobals "law" = some (some (.ref f40))) (l40 : K.lookup f40 = some ⟨oc40, od40, .func (PySem.W.fnOf "law" "law" (defArgs s_law) (defBody s_law) (defScope s_law) .none kV40 dc40 pm40 an40 cd40 ct40), sl40⟩) (c40 : PySem.W.codeIn K cd40 "law" = true) (k40 : PySem.W.keepIn K (.ref f40) = true)
    {p_NEW_ASKER : Addr} {o_NEW_ASKER : Obj} (v_NEW_ASKER : PySem.W.nsIn K mainGlobals "NEW_ASKER" = some (some (.ref p_NEW_ASKER))) (w_NEW_ASKER : K.lookup p_NEW_ASKER = some o_NEW_ASKER) (x_NEW_ASKER : TupOf o_NEW_ASKER [.int (0), .int (0), .int (-1)])
    {p_RESTS : Addr} {o_RESTS : Obj} (v_RESTS : PySem.W.nsIn K mainGlobals "RESTS" = some (some (.ref p_RESTS))) (w_RESTS : K.lookup p_RESTS = some o_RESTS) (x_RESTS : TupOf o_RESTS [.int (1), .int (2), .int (3), .int (4), .int (5), .int (6)])
    (z_abs : PySem.W.nsIn K mainGlobals "abs" = some none)
    (z_all : PySem.W.nsIn K mainGlobals "all" = some none)
    (z_bool : PySem.W.nsIn K mainGlobals "bool" = some none)
    (z_int : PySem.W.nsIn K mainGlobals "int" = some none)
    (z_isinstance : PySem.W.nsIn K mainGlobals "isinstance" = some none)
    (z_len : PySem.W.nsIn K mainGlobals "len" = some none)
    (z_list : PySem.W.nsIn K mainGlobals "list" = some none)
    (z_max : PySem.W.nsIn K mainGlobals "max" = some none)
    (z_min : PySem.W.nsIn K mainGlobals "min" = some none)
    (z_range : PySem.W.nsIn K mainGlobals "range" = some none)
    (z_repr : PySem.W.nsIn K mainGlobals "repr" = some none)
    (z_set : PySem.W.nsIn K mainGlobals "set" = some none)
    (z_sorted : PySem.W.nsIn K mainGlobals "sorted" = some none)
    (z_tuple : PySem.W.nsIn K mainGlobals "tuple" = some none)
    (z_zip : PySem.W.nsIn K mainGlobals "zip" = some none)
    : ∃ (fd : FuncData) (cs : List (Addr × Addr)), Fun K "law" "law" s_law fa fd ∧ (∀ (s : Shared) (u : Value), BindsTo s fd ⟨[u], []⟩ [("_law_script", u)]) ∧
      (∀ p ∈ cs, h.get? p.2 = some { cls := .none, data := .fields #[] } ∧ K.lookup p.2 = none ∧ PySem.W.CodeHd h p.1 p.2 ∧ h.IsCode p.1 p.2 #[] ∧ h.TableAt p.1 p.2 #[]) ∧
        ∀ base : Heap, K.In base → (∀ p ∈ cs, GxR.TabB base mg p.1 p.2) → LawDoesT l.prog w K mg base s_law ["_law_script", "_law_deck_here", "_law_turn", "_law_house_here", "_law_table_here", "_law_held", "_law_due", "_law_rest", "_law_number_here", "_law_one_here"] fa cs := by
  have e := hfa.symm.trans (PySem.W.mg_of X G a40)
  cases e
  have F0 := fun_mk (st := s_whole) l0 c0 k0
  have F1 := fun_mk (st := s_changes_of) l1 c1 k1
  have F2 := fun_mk (st := s_is_course) l2 c2 k2
  have F3 := fun_mk (st := s_heads_back) l3 c3 k3
  have F4 := fun_mk (st := s_named_by) l4 c4 k4
  have F5 := fun_mk (st := s_asks) l5 c5 k5
  have F6 := fun_mk (st := s_behind) l6 c6 k6
  have F7 := fun_mk (st := s_hold_of) l7 c7 k7
  have F8 := fun_mk (st := s_beginnings) l8 c8 k8
  have F9 := fun_mk (st := s_firsts) l9 c9 k9
  have F10 := fun_mk (st := s_may_name) l10 c10 k10
  have F11 := fun_mk (st := s_turns) l11 c11 k11
  have F12 := fun_mk (st := s_answered) l12 c12 k12
  have F13 := fun_mk (st := s_goes_to) l13 c13 k13
  have F14 := fun_mk (st := s_leads_of) l14 c14 k14
  have F15 := fun_mk (st := s_ways_back) l15 c15 k15
  have F16 := fun_mk (st := s_served_order) l16 c16 k16
  have F17 := fun_mk (st := s_greatest_costs) l17 c17 k17
  have F18 := fun_mk (st := s_moments_left) l18 c18 k18
  have F19 := fun_mk (st := s_greatest_at_first) l19 c19 k19
  have F20 := fun_mk (st := s_latest) l20 c20 k20
  have F21 := fun_mk (st := s_stairs) l21 c21 k21
  have F22 := fun_mk (st := s_deck) l22 c22 k22
  have F23 := fun_mk (st := s_draw) l23 c23 k23
  have F24 := fun_mk (st := s_one) l24 c24 k24
  have F25 := fun_mk (st := s_power) l25 c25 k25
  have F26 := fun_mk (st := s_house) l26 c26 k26
  have F27 := fun_mk (st := s_rest_kept) l27 c27 k27
  have F28 := fun_mk (st := s_table) l28 c28 k28
  have F29 := fun_mk (st := s_rows_that_fit) l29 c29 k29
  have F30 := fun_mk (st := s_asked) l30 c30 k30
  have F31 := fun_mk (st := s_later) l31 c31 k31
  have F32 := fun_mk (st := s_hold) l32 c32 k32
  have F33 := fun_mk (st := s_l_firsts) l33 c33 k33
  have F34 := fun_mk (st := s_on) l34 c34 k34
  have F35 := fun_mk (st := s_said) l35 c35 k35
  have F36 := fun_mk (st := s_goes) l36 c36 k36
  have F37 := fun_mk (st := s_reached) l37 c37 k37
  have F38 := fun_mk (st := s_numbers) l38 c38 k38
  have F39 := fun_mk (st := s_number) l39 c39 k39
  let T : Txt K mg := ⟨_,
    _,
    F0,
    PySem.W.mg_of X G a0,
    F0.binds (ps := ["value", "low", "high"]) fun _ _ _ _ _ _ us hl => match us, hl with | [_, _, _], _ => rfl,
    _,
    _,
    F1,
    PySem.W.mg_of X G a1,
    F1.binds (ps := ["course"]) fun _ _ _ _ _ _ us hl => match us, hl with | [_], _ => rfl,
    cc1,
    pp1,
    rfl,
    _,
    _,
    F2,
    PySem.W.mg_of X G a2,
    F2.binds (ps := ["house", "value"]) fun _ _ _ _ _ _ us hl => match us, hl with | [_, _], _ => rfl,
    _,
    _,
    F3,
    PySem.W.mg_of X G a3,
    F3.binds (ps := ["house", "course", "moment"]) fun _ _ _ _ _ _ us hl => match us, hl with | [_, _, _], _ => rfl,
    cc3,
    pp3,
    rfl,
    _,
    _,
    F4,
    PySem.W.mg_of X G a4,
    F4.binds (ps := ["heads", "server"]) fun _ _ _ _ _ _ us hl => match us, hl with | [_, _], _ => rfl,
    _,
    _,
    F5,
    PySem.W.mg_of X G a5,
    F5.binds (ps := ["house", "table", "asker"]) fun _ _ _ _ _ _ us hl => match us, hl with | [_, _, _], _ => rfl,
    _,
    _,
    F6,
    PySem.W.mg_of X G a6,
    F6.binds (ps := ["house", "table", "asker", "name"]) fun _ _ _ _ _ _ us hl => match us, hl with | [_, _, _, _], _ => rfl,
    _,
    _,
    F7,
    PySem.W.mg_of X G a7,
    F7.binds (ps := ["house", "course"]) fun _ _ _ _ _ _ us hl => match us, hl with | [_, _], _ => rfl,
    _,
    _,
    F8,
    PySem.W.mg_of X G a8,
    F8.binds (ps := ["house"]) fun _ _ _ _ _ _ us hl => match us, hl with | [_], _ => rfl,
    _,
    _,
    F9,
    PySem.W.mg_of X G a9,
    F9.binds (ps := ["house"]) fun _ _ _ _ _ _ us hl => match us, hl with | [_], _ => rfl,
    _,
    _,
    F10,
    PySem.W.mg_of X G a10,
    F10.binds (ps := ["house", "standing", "server"]) fun _ _ _ _ _ _ us hl => match us, hl with | [_, _, _], _ => rfl,
    _,
    _,
    F11,
    PySem.W.mg_of X G a11,
    F11.binds (ps := ["house", "heads", "hold"]) fun _ _ _ _ _ _ us hl => match us, hl with | [_, _, _], _ => rfl,
    cc11,
    pp11,
    rfl,
    _,
    _,
    F12,
    PySem.W.mg_of X G a12,
    F12.binds (ps := ["house", "table", "standing"]) fun _ _ _ _ _ _ us hl => match us, hl with | [_, _, _], _ => rfl,
    cc12,
    pp12,
    rfl,
    _,
    _,
    F13,
    PySem.W.mg_of X G a13,
    F13.binds (ps := ["house", "table", "standing"]) fun _ _ _ _ _ _ us hl => match us, hl with | [_, _, _], _ => rfl,
    _,
    _,
    F14,
    PySem.W.mg_of X G a14,
    F14.binds (ps := ["house", "table"]) fun _ _ _ _ _ _ us hl => match us, hl with | [_, _], _ => rfl,
    _,
    _,
    F15,
    PySem.W.mg_of X G a15,
    F15.binds (ps := ["leads"]) fun _ _ _ _ _ _ us hl => match us, hl with | [_], _ => rfl,
    _,
    _,
    F16,
    PySem.W.mg_of X G a16,
    F16.binds (ps := ["leads"]) fun _ _ _ _ _ _ us hl => match us, hl with | [_], _ => rfl,
    _,
    _,
    F17,
    PySem.W.mg_of X G a17,
    F17.binds (ps := ["leads", "costs"]) fun _ _ _ _ _ _ us hl => match us, hl with | [_, _], _ => rfl,
    _,
    _,
    F18,
    PySem.W.mg_of X G a18,
    F18.binds (ps := ["leads"]) fun _ _ _ _ _ _ us hl => match us, hl with | [_], _ => rfl,
    _,
    _,
    F19,
    PySem.W.mg_of X G a19,
    F19.binds (ps := ["house", "left"]) fun _ _ _ _ _ _ us hl => match us, hl with | [_, _], _ => rfl,
    _,
    _,
    F20,
    PySem.W.mg_of X G a20,
    F20.binds (ps := ["house", "table"]) fun _ _ _ _ _ _ us hl => match us, hl with | [_, _], _ => rfl,
    _,
    _,
    F21,
    PySem.W.mg_of X G a21,
    F21.binds (ps := ["house", "table"]) fun _ _ _ _ _ _ us hl => match us, hl with | [_, _], _ => rfl,
    _,
    _,
    F22,
    PySem.W.mg_of X G a22,
    F22.binds (ps := ["_law_script"]) fun _ _ _ _ _ _ us hl => match us, hl with | [_], _ => rfl,
    _,
    _,
    F23,
    PySem.W.mg_of X G a23,
    F23.binds (ps := ["_law_deck_here", "_law_many"]) fun _ _ _ _ _ _ us hl => match us, hl with | [_, _], _ => rfl,
    _,
    _,
    F24,
    PySem.W.mg_of X G a24,
    F24.binds (ps := ["_law_deck_here", "_law_items"]) fun _ _ _ _ _ _ us hl => match us, hl with | [_, _], _ => rfl,
    _,
    _,
    F25,
    PySem.W.mg_of X G a25,
    F25.binds (ps := ["_law_servers", "_law_lag"]) fun _ _ _ _ _ _ us hl => match us, hl with | [_, _], _ => rfl,
    _,
    _,
    F26,
    PySem.W.mg_of X G a26,
    F26.binds (ps := ["_law_deck_here", "_law_room"]) fun _ _ _ _ _ _ us hl => match us, hl with | [_, _], _ => rfl,
    _,
    _,
    F27,
    PySem.W.mg_of X G a27,
    F27.binds (ps := ["_law_course", "_law_rest"]) fun _ _ _ _ _ _ us hl => match us, hl with | [_, _], _ => rfl,
    _,
    _,
    F28,
    PySem.W.mg_of X G a28,
    F28.binds (ps := ["_law_deck_here", "_law_room"]) fun _ _ _ _ _ _ us hl => match us, hl with | [_, _], _ => rfl,
    _,
    _,
    F29,
    PySem.W.mg_of X G a29,
    F29.binds (ps := ["_law_house_here"]) fun _ _ _ _ _ _ us hl => match us, hl with | [_], _ => rfl,
    _,
    _,
    F30,
    PySem.W.mg_of X G a30,
    F30.binds (ps := ["_law_house_here", "_law_table_here", "_law_asker"]) fun _ _ _ _ _ _ us hl => match us, hl with | [_, _, _], _ => rfl,
    _,
    _,
    F31,
    PySem.W.mg_of X G a31,
    F31.binds (ps := ["_law_house_here", "_law_table_here", "_law_asker", "_law_name"]) fun _ _ _ _ _ _ us hl => match us, hl with | [_, _, _, _], _ => rfl,
    _,
    _,
    F32,
    PySem.W.mg_of X G a32,
    F32.binds (ps := ["_law_house_here", "_law_course", "_law_moment"]) fun _ _ _ _ _ _ us hl => match us, hl with | [_, _, _], _ => rfl,
    _,
    _,
    F33,
    PySem.W.mg_of X G a33,
    F33.binds (ps := ["_law_house_here"]) fun _ _ _ _ _ _ us hl => match us, hl with | [_], _ => rfl,
    _,
    _,
    F34,
    PySem.W.mg_of X G a34,
    F34.binds (ps := ["_law_house_here", "_law_heads_here", "_law_hold_here"]) fun _ _ _ _ _ _ us hl => match us, hl with | [_, _, _], _ => rfl,
    _,
    _,
    F35,
    PySem.W.mg_of X G a35,
    F35.binds (ps := ["_law_heads_here", "_law_server"]) fun _ _ _ _ _ _ us hl => match us, hl with | [_, _], _ => rfl,
    _,
    _,
    F36,
    PySem.W.mg_of X G a36,
    F36.binds (ps := ["_law_house_here", "_law_table_here", "_law_standing"]) fun _ _ _ _ _ _ us hl => match us, hl with | [_, _, _], _ => rfl,
    _,
    _,
    F37,
    PySem.W.mg_of X G a37,
    F37.binds (ps := ["_law_house_here", "_law_table_here"]) fun _ _ _ _ _ _ us hl => match us, hl with | [_, _], _ => rfl,
    _,
    _,
    F38,
    PySem.W.mg_of X G a38,
    F38.binds (ps := ["_law_house_here", "_law_table_here"]) fun _ _ _ _ _ _ us hl => match us, hl with | [_, _], _ => rfl,
    _,
    _,
    F39,
    PySem.W.mg_of X G a39,
    F39.binds (ps := ["_law_house_here", "_law_table_here"]) fun _ _ _ _ _ _ us hl => match us, hl with | [_, _], _ => rfl,
    _,
    PySem.W.mg_of X G v_NEW_ASKER,
    x_NEW_ASKER.sq w_NEW_ASKER,
    _,
    PySem.W.mg_of X G v_RESTS,
    x_RESTS.sq w_RESTS,
    PySem.W.mg_none_of X G z_abs,
    PySem.W.mg_none_of X G z_all,
    PySem.W.mg_none_of X G z_bool,
    PySem.W.mg_none_of X G z_int,
    PySem.W.mg_none_of X G z_isinstance,
    PySem.W.mg_none_of X G z_len,
    PySem.W.mg_none_of X G z_list,
    PySem.W.mg_none_of X G z_max,
    PySem.W.mg_none_of X G z_min,
    PySem.W.mg_none_of X G z_range,
    PySem.W.mg_none_of X G z_repr,
    PySem.W.mg_none_of X G z_set,
    PySem.W.mg_none_of X G z_sorted,
    PySem.W.mg_none_of X G z_tuple,
    PySem.W.mg_none_of X G z_zip⟩
  refine ⟨_, T.tabs, fun_mk (st := s_law) l40 c40 k40, fun s u => .of_eq rfl, fun p hp => ?_, fun base _ hb => law_does T hb⟩
  have hp' : p ∈ [(cc1, pp1), (cc3, pp3), (cc11, pp11), (cc12, pp12)] := hp
  rcases List.mem_cons.mp hp' with rfl | hp'
  · exact tab_mk X (PySem.W.mg_of X G a1) l1 rfl rfl u1 v1 y1 tk1
  rcases List.mem_cons.mp hp' with rfl | hp'
  · exact tab_mk X (PySem.W.mg_of X G a3) l3 rfl rfl u3 v3 y3 tk3
  rcases List.mem_cons.mp hp' with rfl | hp'
  · exact tab_mk X (PySem.W.mg_of X G a11) l11 rfl rfl u11 v11 y11 tk11
  rcases List.mem_cons.mp hp' with rfl | hp'
  · exact tab_mk X (PySem.W.mg_of X G a12) l12 rfl rfl u12 v12 y12 tk12
  exact absurd hp' List.not_mem_nil
end Qu
open PySem PySem.W PyProof.Rows
set_option maxRecDepth 100000 in
set_option maxHeartbeats 0 in
theorem PySem.Challenge.cw_sentnext_k29_stairs_of_rests_holds : PySem.Challenge.rw_sentnext_k29_stairs_of_rests.Holds := by
  w_on; o_law; k_head; (case hw => w_witness2)
  k_fill
  refine Qu.law_walkT (l := PySem.Challenge.rw_sentnext_k29_stairs_of_rests) (x := "_law_script") (N := ["_law_script", "_law_deck_here", "_law_turn", "_law_house_here", "_law_table_here", "_law_held", "_law_due", "_law_rest", "_law_number_here", "_law_one_here"]) (nms := ["changes_of", "heads_back", "turns", "answered"]) rfl rfl Qu.sc_law (fun w h Y => PySem.W.kIn_of Y) (by decide +kernel) ?F
  case F =>
    intro w mg fa h KX G hmg hck
    refine' Qu.all_mk KX G hmg ?a0 ?l0 ?c0 ?k0 ?a1 ?l1 ?c1 ?k1 ?u1 ?v1 ?y1 ?tk1 ?a2 ?l2 ?c2 ?k2 ?a3 ?l3 ?c3 ?k3 ?u3 ?v3 ?y3 ?tk3 ?a4 ?l4 ?c4 ?k4 ?a5 ?l5 ?c5 ?k5 ?a6 ?l6 ?c6 ?k6 ?a7 ?l7 ?c7 ?k7 ?a8 ?l8 ?c8 ?k8 ?a9 ?l9 ?c9 ?k9 ?a10 ?l10 ?c10 ?k10 ?a11 ?l11 ?c11 ?k11 ?u11 ?v11 ?y11 ?tk11 ?a12 ?l12 ?c12 ?k12 ?u12 ?v12 ?y12 ?tk12 ?a13 ?l13 ?c13 ?k13 ?a14 ?l14 ?c14 ?k14 ?a15 ?l15 ?c15 ?k15 ?a16 ?l16 ?c16 ?k16 ?a17 ?l17 ?c17 ?k17 ?a18 ?l18 ?c18 ?k18 ?a19 ?l19 ?c19 ?k19 ?a20 ?l20 ?c20 ?k20 ?a21 ?l21 ?c21 ?k21 ?a22 ?l22 ?c22 ?k22 ?a23 ?l23 ?c23 ?k23 ?a24 ?l24 ?c24 ?k24 ?a25 ?l25 ?c25 ?k25 ?a26 ?l26 ?c26 ?k26 ?a27 ?l27 ?c27 ?k27 ?a28 ?l28 ?c28 ?k28 ?a29 ?l29 ?c29 ?k29 ?a30 ?l30 ?c30 ?k30 ?a31 ?l31 ?c31 ?k31 ?a32 ?l32 ?c32 ?k32 ?a33 ?l33 ?c33 ?k33 ?a34 ?l34 ?c34 ?k34 ?a35 ?l35 ?c35 ?k35 ?a36 ?l36 ?c36 ?k36 ?a37 ?l37 ?c37 ?k37 ?a38 ?l38 ?c38 ?k38 ?a39 ?l39 ?c39 ?k39 ?a40 ?l40 ?c40 ?k40 ?v_NEW_ASKER ?w_NEW_ASKER ?x_NEW_ASKER ?v_RESTS ?w_RESTS ?x_RESTS ?z_abs ?z_all ?z_bool ?z_int ?z_isinstance ?z_len ?z_list ?z_max ?z_min ?z_range ?z_repr ?z_set ?z_sorted ?z_tuple ?z_zip
    (case a0 => k_is)
    (case l0 => k_is)
    (case c0 => k_is)
    (case k0 => k_is)
    (case a1 => k_is)
    (case l1 => k_is)
    (case c1 => k_is)
    (case k1 => k_is)
    (case u1 => k_is)
    (case v1 => exact ⟨_, rfl, rfl⟩)
    (case y1 => rfl)
    (case tk1 => exact hck "changes_of" (by simp))
    (case a2 => k_is)
    (case l2 => k_is)
    (case c2 => k_is)
    (case k2 => k_is)
    (case a3 => k_is)
    (case l3 => k_is)
    (case c3 => k_is)
    (case k3 => k_is)
    (case u3 => k_is)
    (case v3 => exact ⟨_, rfl, rfl⟩)
    (case y3 => rfl)
    (case tk3 => exact hck "heads_back" (by simp))
    (case a4 => k_is)
    (case l4 => k_is)
    (case c4 => k_is)
    (case k4 => k_is)
    (case a5 => k_is)
    (case l5 => k_is)
    (case c5 => k_is)
    (case k5 => k_is)
    (case a6 => k_is)
    (case l6 => k_is)
    (case c6 => k_is)
    (case k6 => k_is)
    (case a7 => k_is)
    (case l7 => k_is)
    (case c7 => k_is)
    (case k7 => k_is)
    (case a8 => k_is)
    (case l8 => k_is)
    (case c8 => k_is)
    (case k8 => k_is)
    (case a9 => k_is)
    (case l9 => k_is)
    (case c9 => k_is)
    (case k9 => k_is)
    (case a10 => k_is)
    (case l10 => k_is)
    (case c10 => k_is)
    (case k10 => k_is)
    (case a11 => k_is)
    (case l11 => k_is)
    (case c11 => k_is)
    (case k11 => k_is)
    (case u11 => k_is)
    (case v11 => exact ⟨_, rfl, rfl⟩)
    (case y11 => rfl)
    (case tk11 => exact hck "turns" (by simp))
    (case a12 => k_is)
    (case l12 => k_is)
    (case c12 => k_is)
    (case k12 => k_is)
    (case u12 => k_is)
    (case v12 => exact ⟨_, rfl, rfl⟩)
    (case y12 => rfl)
    (case tk12 => exact hck "answered" (by simp))
    (case a13 => k_is)
    (case l13 => k_is)
    (case c13 => k_is)
    (case k13 => k_is)
    (case a14 => k_is)
    (case l14 => k_is)
    (case c14 => k_is)
    (case k14 => k_is)
    (case a15 => k_is)
    (case l15 => k_is)
    (case c15 => k_is)
    (case k15 => k_is)
    (case a16 => k_is)
    (case l16 => k_is)
    (case c16 => k_is)
    (case k16 => k_is)
    (case a17 => k_is)
    (case l17 => k_is)
    (case c17 => k_is)
    (case k17 => k_is)
    (case a18 => k_is)
    (case l18 => k_is)
    (case c18 => k_is)
    (case k18 => k_is)
    (case a19 => k_is)
    (case l19 => k_is)
    (case c19 => k_is)
    (case k19 => k_is)
    (case a20 => k_is)
    (case l20 => k_is)
    (case c20 => k_is)
    (case k20 => k_is)
    (case a21 => k_is)
    (case l21 => k_is)
    (case c21 => k_is)
    (case k21 => k_is)
    (case a22 => k_is)
    (case l22 => k_is)
    (case c22 => k_is)
    (case k22 => k_is)
    (case a23 => k_is)
    (case l23 => k_is)
    (case c23 => k_is)
    (case k23 => k_is)
    (case a24 => k_is)
    (case l24 => k_is)
    (case c24 => k_is)
    (case k24 => k_is)
    (case a25 => k_is)
    (case l25 => k_is)
    (case c25 => k_is)
    (case k25 => k_is)
    (case a26 => k_is)
    (case l26 => k_is)
    (case c26 => k_is)
    (case k26 => k_is)
    (case a27 => k_is)
    (case l27 => k_is)
    (case c27 => k_is)
    (case k27 => k_is)
    (case a28 => k_is)
    (case l28 => k_is)
    (case c28 => k_is)
    (case k28 => k_is)
    (case a29 => k_is)
    (case l29 => k_is)
    (case c29 => k_is)
    (case k29 => k_is)
    (case a30 => k_is)
    (case l30 => k_is)
    (case c30 => k_is)
    (case k30 => k_is)
    (case a31 => k_is)
    (case l31 => k_is)
    (case c31 => k_is)
    (case k31 => k_is)
    (case a32 => k_is)
    (case l32 => k_is)
    (case c32 => k_is)
    (case k32 => k_is)
    (case a33 => k_is)
    (case l33 => k_is)
    (case c33 => k_is)
    (case k33 => k_is)
    (case a34 => k_is)
    (case l34 => k_is)
    (case c34 => k_is)
    (case k34 => k_is)
    (case a35 => k_is)
    (case l35 => k_is)
    (case c35 => k_is)
    (case k35 => k_is)
    (case a36 => k_is)
    (case l36 => k_is)
    (case c36 => k_is)
    (case k36 => k_is)
    (case a37 => k_is)
    (case l37 => k_is)
    (case c37 => k_is)
    (case k37 => k_is)
    (case a38 => k_is)
    (case l38 => k_is)
    (case c38 => k_is)
    (case k38 => k_is)
    (case a39 => k_is)
    (case l39 => k_is)
    (case c39 => k_is)
    (case k39 => k_is)
    (case a40 => k_is)
    (case l40 => k_is)
    (case c40 => k_is)
    (case k40 => k_is)
    (case v_NEW_ASKER => k_is)
    (case w_NEW_ASKER => k_is)
    (case x_NEW_ASKER => exact ⟨_, _, rfl, rfl, by decide, .cons ⟨_, rfl⟩ (.cons ⟨_, rfl⟩ (.cons ⟨_, rfl⟩ (.nil)))⟩)
    (case v_RESTS => k_is)
    (case w_RESTS => k_is)
    (case x_RESTS => exact ⟨_, _, rfl, rfl, by decide, .cons ⟨_, rfl⟩ (.cons ⟨_, rfl⟩ (.cons ⟨_, rfl⟩ (.cons ⟨_, rfl⟩ (.cons ⟨_, rfl⟩ (.cons ⟨_, rfl⟩ (.nil))))))⟩)
    (case z_abs => k_is)
    (case z_all => k_is)
    (case z_bool => k_is)
    (case z_int => k_is)
    (case z_isinstance => k_is)
    (case z_len => k_is)
    (case z_list => k_is)
    (case z_max => k_is)
    (case z_min => k_is)
    (case z_range => k_is)
    (case z_repr => k_is)
    (case z_set => k_is)
    (case z_sorted => k_is)
    (case z_tuple => k_is)
    (case z_zip => k_is)
