import PyProof.Rows.All
import KE.KIntText
import KE.SortData
import KE.KeyNested
import Wide.All
import OpenK.AllK
import Wide.FinOn
import HandS.ForMost
import HandS.IsInst
import HandS.TupAny
import HandS.NoneIn
import HandS.TupMul
import HandS.Zip
import HandS.Evl
import PyProof.ReprRoads
import HandS.AnyAll
import HandS.Comp
import PyProof.TupleOfGen
import HandS.Set
import HandS.SortInts
import HandS.Walk
import HandS.TupSets
import HandS.SetFor
import HandS.Strs
import HandS.Style
import KE.GoesEnumKw
import PySem.Challenge.RW_sentnext_k47_what_is_a_log
set_option Elab.async false
set_option linter.all false
set_option maxRecDepth 100000
set_option maxHeartbeats 4000000
namespace Qu
open PySem PySem.Spec PyProof.Rows L2
/-! ### data stays where the heap only grows -/
theorem sameT {K : PySem.W.Frag} {H J : Hp} {a : Addr} {xs : List V} (e : Same H J) (h : SqT K H a xs) : SqT K J a xs := by
  rcases h with (h | ⟨o, h⟩) | h
  · exact Or.inl (Or.inl (e _ _ h))
  · exact Or.inl (Or.inr ⟨o, e _ _ h⟩)
  · exact Or.inr h
mutual
theorem dpSame {K : PySem.W.Frag} {H J : Hp} (e : Same H J) : ∀ (d : PyData) (v : V), Dp K H v d → Dp K J v d
  | .none, _, h => by cases h; exact .non
  | .bool b, _, h => by cases h; exact .bl b
  | .int i, _, h => by cases h; exact .int i
  | .str x, _, h => by cases h; exact .str x
  | .list ds, _, h => by cases h with | lst hs ha => exact .lst (e.seq hs) (dpAllSame e ds _ ha)
  | .tuple ds, _, h => by cases h with | tup hs ha => exact .tup (sameT e hs) (dpAllSame e ds _ ha)
  | .dict _, _, h => by cases h
theorem dpAllSame {K : PySem.W.Frag} {H J : Hp} (e : Same H J) : ∀ (ds : List PyData) (vs : List V), DpAll K H vs ds → DpAll K J vs ds
  | [], _, h => by cases h; exact .nil
  | d :: ds, _, h => by cases h with | cons h1 h2 => exact .cons (dpSame e d _ h1) (dpAllSame e ds _ h2)
end
mutual
theorem dpNoDict {K : PySem.W.Frag} {H : Hp} : ∀ (d : PyData) (v : V), Dp K H v d → d.hasDict = false
  | .none, _, _ => by simp only [PyData.hasDict]
  | .bool _, _, _ => by simp only [PyData.hasDict]
  | .int _, _, _ => by simp only [PyData.hasDict]
  | .str _, _, _ => by simp only [PyData.hasDict]
  | .list ds, _, h => by cases h with | lst hs ha => simp only [PyData.hasDict]; exact dpAllNoDict ds _ ha
  | .tuple ds, _, h => by cases h with | tup hs ha => simp only [PyData.hasDict]; exact dpAllNoDict ds _ ha
  | .dict _, _, h => by cases h
theorem dpAllNoDict {K : PySem.W.Frag} {H : Hp} : ∀ (ds : List PyData) (vs : List V), DpAll K H vs ds → PyData.hasDictAll ds = false
  | [], _, _ => by simp only [PyData.hasDictAll]
  | d :: ds, _, h => by cases h with | cons h1 h2 => simp only [PyData.hasDictAll, dpNoDict d _ h1, dpAllNoDict ds _ h2, Bool.or_false]
end

/-! ### repr of data, where no repr is under way around -/
section
variable {X : Cx}
def rShow (K : PySem.W.Frag) : List V → Hp → VK → Prop := fun xs H Q => ∃ (v : V) (d : PyData), xs = [v] ∧ Dp K H v d ∧ d.showable = true ∧ d.depth ≤ 50 ∧ d.shown.length ≤ sizeLine ∧ Q (.str d.shown) H
theorem call_show (hg : X.A.guards = some []) (hu : X.A.units + 64 < cLine) : CallR X (.builtin "repr") (rShow X.K) := by
  intro pins s σ H xs us Q I r h
  obtain ⟨v, d, rfl, hd, hs, hdep, hz, q⟩ := h
  obtain ⟨u, rfl, ru⟩ := vals1 r
  obtain ⟨as, rd⟩ := Dp.reads I d v u hd ru
  have nd := PyData.noDict_hsm (as := as) (dpNoDict d v hd)
  cases hd with
  | non =>
    cases ru
    refine PySem.P.repr_of_none ?_
    exact ⟨.str _, H, I.tok _, ⟨_, rfl⟩, by simpa only [PyData.shown] using q⟩
  | bl b =>
    cases ru
    refine PySem.P.repr_of_bool ?_
    exact ⟨.str _, H, I.tok _, ⟨_, rfl⟩, by simpa only [PyData.shown] using q⟩
  | int i =>
    obtain ⟨t, rfl⟩ := ru
    refine PySem.P.repr_of_int (by simpa [PyData.showable] using hs) ?_
    exact ⟨.str _, H, I.tok _, ⟨_, rfl⟩, by simpa only [PyData.shown] using q⟩
  | str x =>
    obtain ⟨t, rfl⟩ := ru
    refine PySem.P.repr_of_str ?_ (by simpa only [PyData.shown] using hz)
    exact ⟨.str _, H, I.tok _, ⟨_, rfl⟩, by simpa only [PyData.shown] using q⟩
  | lst h1 h2 =>
    cases ru
    exact repr_of_reads' (h₀ := s.heap) rd hs nd hg (by omega) (fun _ _ e => e) (fun h' tu tk hk => ⟨.str _, H, I.kept hk, ⟨_, rfl⟩, q⟩) hz
  | tup h1 h2 =>
    cases ru
    exact repr_of_reads' (h₀ := s.heap) rd hs nd hg (by omega) (fun _ _ e => e) (fun h' tu tk hk => ⟨.str _, H, I.kept hk, ⟨_, rfl⟩, q⟩) hz
end

/-! ### isinstance of data -/
def kindD : PyData → String
  | .none => "NoneType"
  | .bool _ => "bool"
  | .int _ => "int"
  | .str _ => "str"
  | .list _ => "list"
  | .tuple _ => "tuple"
  | .dict _ => "dict"
section
variable {K : PySem.W.Frag} {H : Hp}
theorem dpTy {d : PyData} {v : V} (h : Dp K H v d) : TyX K H v (.type (kindD d)) := by
  cases h with
  | non => exact .base .non
  | bl b => exact .base (.bl b)
  | int i => exact .base (.int i)
  | str x => exact .base (.str x)
  | lst h1 _ =>
    rcases h1 with (h1 | ⟨o, h1⟩) | ⟨o, its, n, hk, hc, _⟩
    · exact .base (.lst h1)
    · exact .base (.frz h1)
    · exact .kList hk hc
  | tup h1 _ =>
    rcases h1 with (h1 | ⟨o, h1⟩) | ⟨o, its, n, hk, hc, _⟩
    · exact .base (.tup h1)
    · exact .fTuple h1
    · exact .kTuple hk hc
def isS (T k : String) : Bool := decide (k = T) || (decide (T = "int") && decide (k = "bool"))
def isA (T : String) (d : PyData) : Bool := isS T (kindD d)
theorem kitS : ∀ T ∈ ["tuple", "int", "bool", "str", "list"], ∀ k ∈ ["NoneType", "bool", "int", "str", "list", "tuple"], kitB k T = some (isS T k) := by decide +kernel
theorem dpKind {d : PyData} {v : V} (h : Dp K H v d) : kindD d ∈ ["NoneType", "bool", "int", "str", "list", "tuple"] := by
  cases h <;> simp [kindD]
end
section
variable {X : Cx}
def rIsD (K : PySem.W.Frag) (T : String) : List V → Hp → VK → Prop := fun xs H Q => ∃ (v : V) (d : PyData), xs = [v, .ty T] ∧ Dp K H v d ∧ Q (.bl (isA T d)) H
theorem call_isD (T : String) (hT : T ∈ ["tuple", "int", "bool", "str", "list"]) : CallR X (.builtin "isinstance") (rIsD X.K T) := by
  intro pins s σ H xs us Q I r h
  obtain ⟨v, d, rfl, hd, q⟩ := h
  refine call_isi pins s σ H _ us Q I r ⟨v, .ty T, .type (kindD d), .type T, isA T d, rfl, .ty T, dpTy hd, kit_ty (kitS T hT _ (dpKind hd)), q⟩
end
/-! ### the end of a law: its def is called by the row's own caller, so nothing is under way around it -/
/-- where the script stands -/
def onlyAt (a : Addr) (u : HO) (free : Bool) : Hp := fun b => if b = a ∧ free = true then some u else none
theorem onlyAt_cases (a : Addr) (u : HO) (free : Bool) (b : Addr) : onlyAt a u free b = none ∨ (b = a ∧ free = true ∧ onlyAt a u free b = some u) := by
  by_cases h : b = a ∧ free = true
  · exact Or.inr ⟨h.1, h.2, if_pos h⟩
  · exact Or.inl (if_neg h)
/-- what the law's body has to do, at any place where its def is called by the caller -/
def LawDoes (P : Program) (w : World) (K : PySem.W.Frag) (mg : Str → Option Value) (st : Stmt) (N : List Str) (f : Addr) : Prop :=
  ∀ (base : Heap) (cdv : Value) (s : Shared) (H : Hp) (a : Addr) (ns : List Int), ns.length ≤ 63 → SqL K H a (ns.map V.int) →
    ∃ t, PSs (cxOf CX0 P w K mg base N "law" (defScope st) f cdv callerA [] s H E0).nox (defBody st) t ∧
      t { nx := fun _ _ => False, rt := fun v _ => v = .bl true } (start N [.ref a]) H
theorem law_at {P : Program} {w : World} {K : PySem.W.Frag} {mg : Str → Option Value} {base : Heap} {st : Stmt} {N : List Str} {f a : Addr} {fd : FuncData} {s : Shared} {H : Hp} {ns : List Int} {x : Str}
    (F : Fun K "law" "law" st f fd) (S : FnScope N [x] (defScope st)) (hr : Room 60 callerA) (D : LawDoes P w K mg st N f)
    (e0 : Env0 P w K mg base callerA [] s H) (hb : BindsTo s fd ⟨[.ref a], []⟩ [(x, .ref a)]) (hl : ns.length ≤ 63) (hS : SqL K H a (ns.map V.int)) :
    codeAny (model P w) callerA (.call (.ref f) ⟨[.ref a], []⟩) (CR CX0 [] P w H s (fun v _ => v = .bl true) E0) s := by
  obtain ⟨oc, od, kV, doc, pm, an, cdv, ct, osl, rfl, lk, hcd⟩ := F.ex
  have heap0 : K.In s.heap := e0.mod.kin.keeps fun b o e => (e0.bs b o e).1
  have lim0 := e0.mod.nolimit.keeps fun b o e => (e0.bs b o e).1
  have vals : Vals [V.ref a] [Value.ref a] := .cons rfl .nil
  refine codeAny_call_function hr.depth (heap0 _ _ lk) rfl S.co S.gen rfl (PySem.W.codeRec_of heap0 hcd) (hb _ _ _ _ ?_)
  refine wpAny_newFunctionEnv_cells S.kind (fun y hy => ?_) fun env he s1 ic => ?_
  · have ey : y = (x, Value.ref a) := List.mem_singleton.mp hy
    rw [ey]
    rcases S.par x (List.mem_singleton.mpr rfl) with q | q
    · exact Or.inl q
    · exact Or.inr ⟨q, PySem.W.cellsFrom_some _ _ _ (Or.inl q)⟩
  · subst he
    refine ⟨lim0.keeps ic.toInCall.keep, codeAny_func ?_⟩
    obtain ⟨t, pt, q⟩ := D base cdv s H a ns hl hS
    have I := inv_start (CX := CX0) (E := E0) (cd := cdv) (f := f) (qual := "law") S hr.hd e0 rfl vals ic
    refine wpAny_mono (pt.nox.run [] s1 _ H _ I q) ?_ ?_
    · intro fl s2 h
      cases fl with
      | ret u =>
        obtain ⟨v, _, H2, J, rv, e⟩ := h
        exact ⟨v, H2, J.os, J.bare, J.base, J.hok, rv, e⟩
      | next => exact (let ⟨_, _, _, z⟩ := h; False.elim z)
      | brk => exact (let ⟨_, _, _, z⟩ := h; False.elim z)
      | cont => exact (let ⟨_, _, _, z⟩ := h; False.elim z)
    · exact fun _ _ z => z
theorem law_walk {l : PySem.W.OpenLaw} {q : Program} {loose : List Str} {XP : (Str → Option Value) → Heap → Prop} {YP : World → Heap → Prop} {d : DefRec} {K : Params → PySem.W.Frag} {x : Str} {st : Stmt} {N : List Str}
    (hn : l.most = some 63) (hdf : d.params.defaults = []) (S : FnScope N [x] (defScope st)) (hY : ∀ (w : World) (h : Heap), YP w h → (K w.params).In h)
    (Fm : ∀ (w : World) (mg : Str → Option Value) (fa : Addr) (h : Heap), (K w.params).In h → h.Ns mainGlobals mg → mg d.name = some (.ref fa) →
      ∃ fd : FuncData, Fun (K w.params) "law" "law" st fa fd ∧ (∀ (s : Shared) (u : Value), BindsTo s fd ⟨[u], []⟩ [(x, u)]) ∧ LawDoes l.prog w (K w.params) mg st N fa) :
    PySem.W.WalkO q loose XP YP l.row.toRowW d [] (fun f vs => PySem.call f vs) := by
  refine Att.attach_call hn hdf fun w s₀ s1 mg mb fa o pm cd doc a vs ns G Y ho hd hcd hmg hobj hints hlen hgen => ?_
  have hK := hY w _ Y
  obtain ⟨fd, F, hbind, D⟩ := Fm w mg fa _ hK G.T.g hmg
  have rv := vals_ints hints
  -- the script is tracked, as known to the object, unless it is one of the module's
  let u : HO := .frz { cls := .type "list", data := .seq vs.toArray } (.lst (ns.map V.int))
  let free : Bool := ((K w.params).lookup a).isNone
  let H : Hp := onlyAt a u free
  have lenV : vs.length = ns.length := hints.length
  have small : ns.length ≤ sizeLine := Nat.le_trans hlen (by decide)
  have hS : SqL (K w.params) H a (ns.map V.int) := by
    cases e : (K w.params).lookup a with
    | none => exact Or.inl (Or.inr ⟨_, if_pos ⟨rfl, by show ((K w.params).lookup a).isNone = true; rw [e]; rfl⟩⟩)
    | some ob =>
      have e1 := (hK a ob e).symm.trans hobj
      cases Option.some.inj e1
      exact Or.inr ⟨_, vs.toArray, _, e, rfl, rfl, rfl, by rw [List.size_toArray, lenV]; exact small, by rw [List.toList_toArray]; exact rv⟩
  have hHok : HOk l.prog w H s1.heap := fun b z e => by
    rcases onlyAt_cases a u free b with n | ⟨rfl, _, y⟩
    · cases n.symm.trans e
    · cases y.symm.trans e
      exact ⟨hobj, by rw [List.length_map]; exact small, vs, _, rv, hobj⟩
  have isL : ∀ {b : Addr} {ob : Obj}, s1.heap.get? b = some ob → (∀ its n, ob.data ≠ .seq its n) → H b = none := fun {b ob} e nd => by
    rcases onlyAt_cases a u free b with n | ⟨rfl, _, _⟩
    · exact n
    · cases hobj.symm.trans e
      exact absurd rfl (nd _ _)
  have nsK : ∀ {b : Addr} {m : Str → Option Value}, s1.heap.Ns b m → (hidT s1.heap H).Ns b m := by
    rintro b m ⟨ob, es, ep, e, dt, r⟩
    exact ⟨ob, es, ep, hidT_get e (isL e fun its n z => nomatch dt.symm.trans z), dt, r⟩
  have inB : (K w.params).In (hidT s1.heap H) := fun b ob e => hidT_get (hK b ob e) (by
    rcases onlyAt_cases a u free b with n | ⟨rfl, fr, _⟩
    · exact n
    · have fr' : ((K w.params).lookup b).isNone = true := fr
      rw [e] at fr'
      cases fr')
  have hM : Mod (K w.params) mg (hidT s1.heap H) := ⟨inB, nsK G.T.g, ⟨mb, nsK G.T.b, G.T.builtins⟩, let ⟨mc, h1, h2⟩ := G.T.nolimit; ⟨mc, nsK h1, h2⟩⟩
  have e0 : Env0 l.prog w (K w.params) mg (hidT s1.heap H) callerA [] s1 H :=
    { frames := rfl, mod := hM, bs := fun b ob e => of_hidT e, bsz := Nat.le_of_eq (hidT_size _ _), funs := True.intro, frf := fun b hb => (List.not_mem_nil hb).elim, hok := hHok, bare := .of_eq hgen }
  refine codeAny_mono (law_at F S ⟨rfl, by decide, by decide⟩ D e0 (hbind s1 (.ref a)) hlen hS) fun r s2 h => ?_
  cases r with
  | error e => exact False.elim h
  | ok fl =>
    cases fl with
    | next => exact False.elim h
    | brk => exact False.elim h
    | cont => exact False.elim h
    | ret v0 =>
      obtain ⟨v, H2, os, bare, un, hok2, r2, ev⟩ := h
      have ev' : v = .bl true := ev
      rw [ev'] at r2
      have e3 : v0 = Value.bool true := r2
      rw [e3]
      refine ⟨rfl, OldK.of_keep fun b ob e => ?_, os, bare⟩
      rcases onlyAt_cases a u free b with n | ⟨rfl, _, y⟩
      · exact un.keep b ob e n List.not_mem_nil List.not_mem_nil
      · have k2 := hok2 b _ (un.frzs b _ _ y)
        cases hobj.symm.trans e
        exact k2.1
/-! ### how much there is to a piece of data, and that it can be shown -/
mutual
def wt : PyData → Nat
  | .list ds => 1 + wtAll ds
  | .tuple ds => 1 + wtAll ds
  | _ => 1
def wtAll : List PyData → Nat
  | [] => 0
  | d :: ds => wt d + wtAll ds
end
mutual
def nice (e : Nat) : PyData → Bool
  | .none => true
  | .bool _ => true
  | .int i => decide (i.natAbs < 2 ^ e)
  | .str x => decide (x.length ≤ 10) && PyData.strOk x
  | .list ds => niceAll e ds
  | .tuple ds => niceAll e ds
  | .dict _ => false
def niceAll (e : Nat) : List PyData → Bool
  | [] => true
  | d :: ds => nice e d && niceAll e ds
end
theorem niceAll_iff {e : Nat} : ∀ {ds : List PyData}, niceAll e ds = true ↔ ∀ d ∈ ds, nice e d = true
  | [] => by simp [niceAll]
  | d :: ds => by simp [niceAll, niceAll_iff (ds := ds)]
theorem wtAll_append : ∀ a b : List PyData, wtAll (a ++ b) = wtAll a + wtAll b
  | [], b => by simp [wtAll]
  | d :: a, b => by simp [wtAll, wtAll_append a b]; omega
theorem wtAll_reverse : ∀ a : List PyData, wtAll a.reverse = wtAll a
  | [] => rfl
  | d :: a => by rw [List.reverse_cons, wtAll_append, wtAll_reverse a]; simp [wtAll]; omega
theorem wt_pos (d : PyData) : 1 ≤ wt d := by cases d <;> simp [wt]
theorem wtAll_len : ∀ ds : List PyData, ds.length ≤ wtAll ds
  | [] => Nat.le_refl _
  | d :: ds => by
    have := wtAll_len ds
    have := wt_pos d
    simp only [List.length_cons, wtAll]
    omega
theorem depthAll_append : ∀ a b : List PyData, PyData.depthAll (a ++ b) = max (PyData.depthAll a) (PyData.depthAll b)
  | [], b => by simp [PyData.depthAll]
  | d :: a, b => by simp only [List.cons_append, PyData.depthAll, depthAll_append a b]; omega
theorem depthAll_le {m : Nat} : ∀ {ds : List PyData}, PyData.depthAll ds ≤ m ↔ ∀ d ∈ ds, d.depth ≤ m
  | [] => by simp [PyData.depthAll]
  | d :: ds => by
    have ih := depthAll_le (m := m) (ds := ds)
    simp only [PyData.depthAll, List.mem_cons, forall_eq_or_imp, ← ih]
    omega
theorem log_lt {e : Nat} {i : Int} (h : i.natAbs < 2 ^ e) : i.natAbs.log2 < e + 1 := by
  by_cases z : i.natAbs = 0
  · rw [z]
    exact Nat.lt_of_le_of_lt (Nat.le_of_eq (by decide : Nat.log2 0 = 0)) (Nat.succ_pos e)
  · exact Nat.lt_succ_of_lt ((Nat.log2_lt z).mpr h)
theorem shownAll_len : ∀ ds : List PyData, (PyData.shownAll ds).length = ds.length
  | [] => by simp [PyData.shownAll]
  | d :: ds => by simp [PyData.shownAll, shownAll_len ds]
mutual
theorem nice_shown {e : Nat} : ∀ d : PyData, nice e d = true → d.shown.length + 2 ≤ (e + 110) * wt d
  | .none, _ => by simp only [PyData.shown, wt]; exact Nat.le_trans (by decide : ("None" : Str).length + 2 ≤ 110) (by omega)
  | .bool b, _ => by
    simp only [PyData.shown, wt]
    cases b
    · exact Nat.le_trans (by decide : ("False" : Str).length + 2 ≤ 110) (by omega)
    · exact Nat.le_trans (by decide : ("True" : Str).length + 2 ≤ 110) (by omega)
  | .int i, h => by
    have h' : i.natAbs < 2 ^ e := by simpa [nice] using h
    have := int_text_length_le (Nat.succ_pos e) (log_lt h')
    simp only [PyData.shown, wt]
    show (Str.ofString (toString i)).length + 2 ≤ _
    rw [PyProof.Rows.ofString_len]
    omega
  | .str x, h => by
    have h' : x.length ≤ 10 ∧ PyData.strOk x = true := by simpa [nice] using h
    have h2 : ∀ c ∈ x.cps.toList, c < 16 ^ 8 := fun c hc => by
      have h3 := h'.2
      unfold PyData.strOk at h3
      have h4 := Array.all_eq_true_iff_forall_mem.mp h3 c (by simpa using hc)
      have h5 : c < 0x110000 := by simpa using h4
      exact Nat.lt_trans h5 (by decide)
    have := StrLaws.reprText_len x h2
    simp only [PyData.shown, wt]
    omega
  | .list ds, h => by
    have ih := nice_shownAll ds (by simpa [nice] using h)
    have l := listText_len_le (PyData.shownAll ds)
    rw [shownAll_len] at l
    simp only [PyData.shown, wt]
    rw [Nat.mul_add (e + 110)]
    omega
  | .tuple ds, h => by
    have ih := nice_shownAll ds (by simpa [nice] using h)
    have l := tupleText_len_le (PyData.shownAll ds)
    rw [shownAll_len] at l
    simp only [PyData.shown, wt]
    rw [Nat.mul_add (e + 110)]
    omega
  | .dict _, h => by simp [nice] at h
theorem nice_shownAll {e : Nat} : ∀ ds : List PyData, niceAll e ds = true → ((PyData.shownAll ds).map (·.length)).sum + 2 * ds.length ≤ (e + 110) * wtAll ds
  | [], _ => by simp [PyData.shownAll]
  | d :: ds, h => by
    have h' : nice e d = true ∧ niceAll e ds = true := by simpa [niceAll] using h
    have h1 := nice_shown d h'.1
    have h2 := nice_shownAll ds h'.2
    simp only [PyData.shownAll, List.map_cons, List.sum_cons, List.length_cons, wtAll]
    rw [Nat.mul_add (e + 110)]
    omega
end
mutual
theorem nice_showable {e : Nat} (he : e < 1900) : ∀ d : PyData, nice e d = true → d.showable = true
  | .none, _ => by simp [PyData.showable]
  | .bool b, _ => by simp [PyData.showable]
  | .int i, h => by
    have h' : i.natAbs < 2 ^ e := by simpa [nice] using h
    have := log_lt h'
    simp only [PyData.showable, decide_eq_true_eq]
    omega
  | .str x, h => by simp [PyData.showable]
  | .list ds, h => by simp only [PyData.showable]; exact nice_showableAll he ds (by simpa [nice] using h)
  | .tuple ds, h => by simp only [PyData.showable]; exact nice_showableAll he ds (by simpa [nice] using h)
  | .dict _, h => by simp [nice] at h
theorem nice_showableAll {e : Nat} (he : e < 1900) : ∀ ds : List PyData, niceAll e ds = true → PyData.showableAll ds = true
  | [], _ => by simp [PyData.showableAll]
  | d :: ds, h => by
    have h' : nice e d = true ∧ niceAll e ds = true := by simpa [niceAll] using h
    simp only [PyData.showableAll, nice_showable he d h'.1, nice_showableAll he ds h'.2, Bool.and_self]
end
mutual
theorem nice_lay {e : Nat} : ∀ d : PyData, nice e d = true → d.canLay0 = true
  | .none, _ => by simp [PyData.canLay0]
  | .bool b, _ => by simp [PyData.canLay0]
  | .int i, h => by simp [PyData.canLay0]
  | .str x, h => by
    have h' : x.length ≤ 10 ∧ PyData.strOk x = true := by simpa [nice] using h
    simp only [PyData.canLay0, h'.2]
  | .list ds, h => by simp only [PyData.canLay0]; exact nice_layAll ds (by simpa [nice] using h)
  | .tuple ds, h => by simp only [PyData.canLay0]; exact nice_layAll ds (by simpa [nice] using h)
  | .dict _, h => by simp [nice] at h
theorem nice_layAll {e : Nat} : ∀ ds : List PyData, niceAll e ds = true → PyData.canLayAll0 ds = true
  | [], _ => by simp [PyData.canLayAll0]
  | d :: ds, h => by
    have h' : nice e d = true ∧ niceAll e ds = true := by simpa [niceAll] using h
    simp only [PyData.canLayAll0, nice_lay d h'.1, nice_layAll ds h'.2, Bool.and_self]
end
theorem nice_shaped {e : Nat} {d : PyData} (h : nice e d = true) (hd : d.depth ≤ 64) : SeqAt.shaped d = true := by
  unfold SeqAt.shaped
  rw [nice_lay d h, decide_eq_true hd]
  rfl
mutual
theorem nice_more {e f : Nat} (hef : e ≤ f) : ∀ d : PyData, nice e d = true → nice f d = true
  | .none, _ => by simp [nice]
  | .bool b, _ => by simp [nice]
  | .int i, h => by
    have h' : i.natAbs < 2 ^ e := by simpa [nice] using h
    simp only [nice, decide_eq_true_eq]
    exact Nat.lt_of_lt_of_le h' (Nat.pow_le_pow_right (by decide) hef)
  | .str x, h => by simpa [nice] using h
  | .list ds, h => by simp only [nice]; exact nice_moreAll hef ds (by simpa [nice] using h)
  | .tuple ds, h => by simp only [nice]; exact nice_moreAll hef ds (by simpa [nice] using h)
  | .dict _, h => by simp [nice] at h
theorem nice_moreAll {e f : Nat} (hef : e ≤ f) : ∀ ds : List PyData, niceAll e ds = true → niceAll f ds = true
  | [], _ => by simp [niceAll]
  | d :: ds, h => by
    have h' : nice e d = true ∧ niceAll e ds = true := by simpa [niceAll] using h
    simp only [niceAll, nice_more hef d h'.1, nice_moreAll hef ds h'.2, Bool.and_self]
end
/-- data that is small: exponent of its numbers, weight, depth -/
structure Tiny (e W m : Nat) (d : PyData) : Prop where
  ni : nice e d = true
  we : wt d ≤ W
  de : d.depth ≤ m
theorem Tiny.mono {e W m e' W' m' : Nat} {d : PyData} (t : Tiny e W m d) (h1 : e ≤ e') (h2 : W ≤ W') (h3 : m ≤ m') : Tiny e' W' m' d :=
  ⟨nice_more h1 d t.ni, Nat.le_trans t.we h2, Nat.le_trans t.de h3⟩
theorem Tiny.shows {e W m : Nat} {d : PyData} (t : Tiny e W m d) (he : e < 1900) (hm : m ≤ 50) (hW : (e + 110) * W ≤ sizeLine) : d.showable = true ∧ d.depth ≤ 50 ∧ d.shown.length ≤ sizeLine := by
  refine ⟨nice_showable he d t.ni, Nat.le_trans t.de hm, ?_⟩
  have h1 := nice_shown d t.ni
  have h2 : (e + 110) * wt d ≤ (e + 110) * W := Nat.mul_le_mul_left _ t.we
  omega
/-- items of a piece of data -/
theorem wt_item : ∀ {ds : List PyData} {d : PyData}, d ∈ ds → wt d ≤ wtAll ds
  | x :: ds, d, h => by
    simp only [wtAll]
    rcases List.mem_cons.mp h with rfl | h
    · omega
    · have := wt_item h
      omega
theorem dpAll_len {K : PySem.W.Frag} {H : Hp} : ∀ {vs : List V} {ds : List PyData}, DpAll K H vs ds → vs.length = ds.length
  | _, _, .nil => rfl
  | _, _, .cons _ t => by simp only [List.length_cons, dpAll_len t]
theorem dpAll_get {K : PySem.W.Frag} {H : Hp} : ∀ {vs : List V} {ds : List PyData} {i : Nat} {v : V}, DpAll K H vs ds → vs[i]? = some v → ∃ d, ds[i]? = some d ∧ Dp K H v d
  | _, _, 0, v, .cons h _, e => by simp at e; subst e; exact ⟨_, rfl, h⟩
  | _, _, i + 1, v, .cons _ t, e => by
    obtain ⟨d, h1, h2⟩ := dpAll_get (i := i) (v := v) t (by simpa using e)
    exact ⟨d, by simpa using h1, h2⟩
theorem dpAll_append {K : PySem.W.Frag} {H : Hp} : ∀ {vs ws : List V} {ds es : List PyData}, DpAll K H vs ds → DpAll K H ws es → DpAll K H (vs ++ ws) (ds ++ es)
  | _, _, _, _, .nil, h => h
  | _, _, _, _, .cons a t, h => .cons a (dpAll_append t h)
theorem dpAll_take {K : PySem.W.Frag} {H : Hp} : ∀ {vs : List V} {ds : List PyData} (n : Nat), DpAll K H vs ds → DpAll K H (vs.take n) (ds.take n)
  | _, _, 0, _ => .nil
  | _, _, _ + 1, .nil => .nil
  | _, _, n + 1, .cons a t => .cons a (dpAll_take n t)
theorem dpAll_drop {K : PySem.W.Frag} {H : Hp} : ∀ {vs : List V} {ds : List PyData} (n : Nat), DpAll K H vs ds → DpAll K H (vs.drop n) (ds.drop n)
  | _, _, 0, h => h
  | _, _, _ + 1, .nil => .nil
  | _, _, n + 1, .cons _ t => dpAll_drop n t
theorem dpAll_reverse {K : PySem.W.Frag} {H : Hp} : ∀ {vs : List V} {ds : List PyData}, DpAll K H vs ds → DpAll K H vs.reverse ds.reverse
  | _, _, .nil => .nil
  | _, _, .cons a t => by
    rw [List.reverse_cons, List.reverse_cons]
    exact dpAll_append (dpAll_reverse t) (.cons a .nil)
/-! ### cuts: what is known behind a test or an expression, said once -/
section
variable {X : Cx}
theorem pt_cut {e : Expr} {t : TT} (h : PT X e t) : PT X e (fun σ H Q => ∃ G : Bool → Hp → Prop, t σ H G ∧ ∀ b J, G b J → Q b J) :=
  ⟨fun pins s σ H Q I ⟨G, g, q⟩ => thn (h.run pins s σ H G I g) fun b s1 ⟨J, I1, z⟩ => ⟨J, I1, q b J z⟩⟩
theorem pe_cut {e : Expr} {t : TE} (h : PE X e t) : PE X e (fun σ H Q => ∃ G : V → Hp → Prop, t σ H G ∧ ∀ v J, G v J → Q v J) :=
  ⟨fun pins s σ H Q I ⟨G, g, q⟩ => thn (h.run pins s σ H G I g) fun u s1 ⟨v, J, I1, r, z⟩ => ⟨v, J, I1, r, q v J z⟩⟩
/-! ### tuples: slices and sums, whatever object they are -/
theorem cut_whole (xs : List V) (lo hi : Option Int) (h : HT.sIx xs.length 0 lo = 0 ∧ HT.sIx xs.length xs.length hi = xs.length) : cutV xs lo hi = xs := by
  unfold cutV
  rw [h.1, h.2, List.drop_zero, Nat.sub_zero, List.take_of_length_le (Nat.le_refl _)]
def rCutS (K : PySem.W.Frag) : V → Option Int → Option Int → Hp → VK → Prop := fun x lo hi H Q => ∃ (a : Addr) (xs : List V), x = .ref a ∧ SqT K H a xs ∧ ∀ (t : Addr) (J : Hp), SqT K J t (cutV xs lo hi) → Same H J → Q (.ref t) J
theorem sl_tupS : SlR X (rCutS X.K) := by
  intro pins s σ H x v vl vu lo hi sl Q I rx hs pl pu h
  obtain ⟨a, xs, rfl, hx, q⟩ := h
  refine sl_tupA pins s σ H _ v vl vu lo hi sl Q I rx hs pl pu ⟨a, xs, rfl, hx, fun z => q a H ?_ (Same.refl H), fun _ p hp => q p _ (SqT.of upd_same) fun b o e => ?_⟩
  · rw [cut_whole xs lo hi z]
    exact hx
  · rw [upd_ne (ne_of_none e hp)]
    exact e
def rCatS (K : PySem.W.Frag) : R2 := fun x y H Q => ∃ (a b : Addr) (xs ys : List V), x = .ref a ∧ y = .ref b ∧ SqT K H a xs ∧ SqT K H b ys ∧ xs.length + ys.length ≤ sizeLine ∧
  ∀ (t : Addr) (J : Hp), SqT K J t (xs ++ ys) → Same H J → Q (.ref t) J
theorem op_catS : OpR X (binaryOp .Add) (rCatS X.K) := by
  intro pins s σ H x y v u Q I rx ry h
  obtain ⟨a, b, xs, ys, rfl, rfl, ha, hb, hz, q⟩ := h
  refine op_catA pins s σ H _ _ v u Q I rx ry ⟨a, b, xs, ys, rfl, rfl, ha, hb, hz, fun e => q b H ?_ (Same.refl H), fun _ e => q a H ?_ (Same.refl H), fun _ _ p hp => q p _ (SqT.of upd_same) fun c o e => ?_⟩
  · rw [e]
    exact hb
  · rw [e, List.append_nil]
    exact ha
  · rw [upd_ne (ne_of_none e hp)]
    exact e
end
/-! ### t[::-1] of a tuple -/
section
variable {prog : Program} {w : World} {A : Around} {E : Value → Shared → Prop} {s : Shared}
theorem back_parts (n : Nat) : Builtin.Slice.sliceAdjust none none (-1) (n : Int) = ((n : Int) - 1, -1) ∧ Builtin.Slice.slicePlaces ((n : Int) - 1) (-1) (-1) = n := by
  constructor
  · unfold Builtin.Slice.sliceAdjust
    simp
  · unfold Builtin.Slice.slicePlaces
    have h1 : ¬ ((-1 : Int) > 0) := by omega
    have h2 : -(-1 : Int) = 1 := rfl
    rw [if_neg h1, h2, Int.ediv_one]
    split <;> omega
theorem fm_congr {α β : Type} {f g : α → Option β} : ∀ l : List α, (∀ x ∈ l, f x = g x) → l.filterMap f = l.filterMap g
  | [], _ => rfl
  | x :: l, h => by
    rw [List.filterMap_cons, List.filterMap_cons, h x List.mem_cons_self, fm_congr l fun y hy => h y (List.mem_cons_of_mem _ hy)]
theorem back_pick (xs : Array Value) : ((List.range xs.size).filterMap fun (k : Nat) => xs[(((xs.size : Int) - 1) + (k : Int) * (-1)).toNat]?).toArray = xs.toList.reverse.toArray := by
  have g := HT.pick_gen xs.reverse 0 xs.size
  rw [List.drop_zero, List.take_of_length_le (by simp)] at g
  rw [Array.toList_reverse] at g
  rw [← g]
  refine congrArg List.toArray (fm_congr _ fun k hk => ?_)
  have hk' : k < xs.size := List.mem_range.mp hk
  have e1 : (((xs.size : Int) - 1) + (k : Int) * (-1)).toNat = xs.size - 1 - k := by omega
  have e2 : (((0 : Nat) : Int) + (k : Int) * 1).toNat = k := by omega
  rw [e1, e2, Array.getElem?_reverse hk']
theorem back_applied {c : Addr} {st : Value} {n : Nat} {Q : Int × Int × Nat → Shared → Prop} (hS : s.heap.IsSliceOf c .none .none st) (hp : IsPart st (some (-1))) (h : Q ((n : Int) - 1, -1, n) s) :
    wpAny (model prog w) A (Builtin.Slice.sliceApplied (.ref c) (pure (n : Int))) Q E s := by
  obtain ⟨ob, o1, o2, o3⟩ := id hS
  unfold Builtin.Slice.sliceApplied Builtin.Slice.sliceFields
  refine wpAny_bind (wpAny_bind (wpAny_field o1 o3 (x := .none) rfl (wpAny_bind (wpAny_field o1 o3 (x := .none) rfl (wpAny_bind (wpAny_field o1 o3 (x := st) rfl (wpAny_pure ?_)))))))
  refine wpAny_bind (HT.slicePart_ hp ?_)
  show wpAny _ _ (if ((-1 : Int) == 0) = true then _ else _) _ _ s
  rw [if_neg (by decide)]
  refine wpAny_bind (slicePart_none (wpAny_bind (slicePart_none (wpAny_bind (wpAny_pure ?_)))))
  show wpAny _ _ (match Builtin.Slice.sliceAdjust none none (-1) (n : Int) with | (lo, hi) => pure (lo, (-1 : Int), Builtin.Slice.slicePlaces lo hi (-1))) _ _ s
  rw [(back_parts n).1]
  show wpAny _ _ (pure ((n : Int) - 1, (-1 : Int), Builtin.Slice.slicePlaces ((n : Int) - 1) (-1) (-1))) _ _ s
  rw [(back_parts n).2]
  exact wpAny_pure h
theorem getItem_back {t c : Addr} {its : Array Value} {st : Value} {Q : Value → Shared → Prop} (hT : IsTup s.heap t its) (hS : s.heap.IsSliceOf c .none .none st) (hp : IsPart st (some (-1))) (hz : its.size ≤ sizeLine)
    (h : Q (.ref s.heap.objs.size) { s with heap := s.heap.push { cls := .type "tuple", data := .seq its.toList.reverse.toArray } }) : wpAny (model prog w) A (getItem (.ref t) (.ref c)) Q E s := by
  have fits : sizeOk (.seq its.toList.reverse.toArray) := by
    show its.toList.reverse.toArray.size ≤ sizeLine
    rw [List.size_toArray, List.length_reverse, Array.length_toList]
    exact hz
  obtain ⟨ob, o1, o2, o3⟩ := id hS
  have isS : s.TypeIs (.ref c) "slice" := ⟨ob, o1, o2⟩
  unfold getItem
  try with_reducible refine wpAny_holding ?_
  first | refine wpAny_bind (wpAny_pure ?_) | skip
  refine wpAny_bind (wpAny_sequenceKey hT.typeIs (by decide) ?_)
  have sl := PyProof.Rows.slot_tuple_getitem
  refine wpAny_bind (wpAny_callSpecial?_slot (name := Str.ofString "__getitem__") hT.typeIs sl (wpAny_call_entry sl hT.typeIs PyProof.Rows.entry_tuple_getitem ?_ (PyProof.Rows.args_tuple_getitem _ _)))
  show wpAny _ _ (Builtin.Tuple.tupleItemsOf (.ref t) >>= _) _ _ s
  refine wpAny_bind (PyProof.Rows.tupleItemsOf_ hT (wpAny_bind (wpAny_typeOf isS ?_)))
  rw [if_pos (by decide)]
  refine wpAny_bind (back_applied hS hp ?_)
  show wpAny _ _ (if ((((its.size : Nat) : Int) - 1 == 0 && (-1 : Int) == 1 && its.size == its.size) = true) then _ else _) _ _ s
  have no : ¬ ((((its.size : Nat) : Int) - 1 == 0 && (-1 : Int) == 1 && its.size == its.size) = true) := by simp
  rw [if_neg no, back_pick]
  first
    | exact wpAny_bind (m := Builtin.Tuple.tupleExact _) (wpAny_newObj_type (wpAny_pure ⟨_, rfl, wpAny_pure h⟩) fits)
    | exact wpAny_bind (m := Builtin.Tuple.tupleExact _) (wpAny_newObj_type (wpAny_bind (wpAny_pure (wpAny_pure ⟨_, rfl, wpAny_pure h⟩))) fits)
    | exact wpAny_bind (wpAny_bind (m := Builtin.Tuple.tupleExact _) (wpAny_newObj_type (wpAny_pure (wpAny_pure ⟨_, rfl, wpAny_pure h⟩)) fits))
    | exact wpAny_bind (wpAny_bind (m := Builtin.Tuple.tupleExact _) (wpAny_newObj_type (wpAny_pure ⟨_, rfl, wpAny_pure h⟩) fits))
end
section
variable {X : Cx}
def tBackT (K : PySem.W.Frag) (te : TE) : TE := fun σ H Q => te σ H fun x J => ∃ (a : Addr) (xs : List V), x = .ref a ∧ SqT K J a xs ∧ ∀ p, J p = none → Q (.ref p) (upd J p (.tup xs.reverse))
theorem pe_revT {e : Expr} {te : TE} {k : Nat} {p1 p2 p3 pos : Pos} (he : PE X e te) : PE X (.Subscript e (.Slice none none (some (.UnaryOp .USub (.Constant (.int 1) k p1) p2)) p3) pos) (tBackT X.K te) := by
  refine ⟨fun pins s σ H Q I h => Subscript_ (thn (he.run pins s σ H _ I h) fun v s1 ⟨x, H1, I1, r1, a, xs, ex, hx, q⟩ => ?_)⟩
  subst ex
  cases r1
  have step : PO X (some (.UnaryOp .USub (.Constant (.int 1) k p1) p2)) _ := po_some (pe_un un_neg pe_int)
  refine wpAny_Slice (thn (po_none.run pins s1 σ H1 (fun o L => o = none ∧ L = H1) I1 ⟨rfl, rfl⟩) fun vl s2 ⟨l, H2, I2, pl, el, e2⟩ => ?_)
  subst el e2
  refine thn (po_none.run pins s2 σ H2 (fun o L => o = none ∧ L = H2) I2 ⟨rfl, rfl⟩) fun vu s3 ⟨u, H3, I3, pu, eu, e3⟩ => ?_
  subst eu e3
  refine thn (step.run pins s3 σ H3 (fun o L => o = some (-1) ∧ L = H3) I3 ⟨1, rfl, -1, rfl, rfl, rfl⟩) fun vs s4 ⟨o, H4, I4, ps, eo, e4⟩ => ?_
  subst eo e4
  cases pl
  cases pu
  have I5 : Inv X pins σ H4 { s4 with heap := s4.heap.push { cls := .type "slice", data := .fields #[.none, .none, vs] } } := I4.kept (t' := s4.toks) fun b ob z => Heap.get?_push_of_some _ z
  obtain ⟨its, r, isT, hz⟩ := I5.tuple hx
  have hlen := r.length
  show wpAny (model X.prog X.w) X.A (subscriptTail e (.Slice none none (some (.UnaryOp .USub (.Constant (.int 1) k p1) p2)) p3) (.ref a) (.ref s4.heap.objs.size)) (EP X pins σ Q) X.xe { s4 with heap := s4.heap.push { cls := .type "slice", data := .fields #[.none, .none, vs] } }
  refine tail_any (ops := [.ref a, .ref s4.heap.objs.size]) isT.typeIs PyProof.Rows.slot_tuple_getitem.lookup ?_ (by with_unfolding_all rfl)
  refine getItem_back isT (Heap.IsSliceOf.new _ .none .none vs) ps (by rw [List.size_toArray]; omega) ?_
  refine ⟨.ref _, _, I5.laid (t' := s4.toks) (o := .tup xs.reverse) (fun b ob z => Heap.get?_push_of_some _ z) (Nat.le_refl _) ?_, rfl, q _ (I5.hok.fresh (Nat.le_refl _))⟩
  exact ⟨by rw [List.length_reverse]; exact hz, its.reverse, r.reverse, _, Heap.get?_push_size _ rfl, rfl, _, rfl⟩
end
/-! ### x in a tuple of data -/
section
variable {X : Cx}
def rInT (K : PySem.W.Frag) : R2 := fun x y H Q => ∃ d ds, Dp K H x d ∧ Dp K H y (.tuple ds) ∧ SeqAt.shaped d = true ∧ SeqAt.shaped (.tuple ds) = true ∧ Q (.bl (ds.any fun z => PyData.eqv z d)) H
theorem op_inT (hu : X.A.units + 65 < cLine) : OpR X (compareOp .In) (rInT X.K) := by
  intro pins s σ H x y v u Q I rx ry h
  obtain ⟨d, ds, hd, he, sd, se, q⟩ := h
  obtain ⟨as, r1⟩ := Dp.reads I d x v hd rx
  obtain ⟨bs, r2⟩ := Dp.reads I (.tuple ds) y u he ry
  exact SeqAt.in_tuple_reads r2 r1 (SeqAt.canLay_of_shaped se) (SeqAt.canLay_of_shaped sd) (room_in_shaped sd hu) ⟨.bl _, H, I, rfl, q⟩
end
/-- a tuple of the module's own -/
def TupOf (o : Obj) (xs : List V) : Prop := ∃ (its : Array Value) (n : Nat), o.cls = .type "tuple" ∧ o.data = .seq its n ∧ its.size ≤ sizeLine ∧ Vals xs its.toList
theorem TupOf.sq {K : PySem.W.Frag} {a : Addr} {o : Obj} {xs : List V} (t : TupOf o xs) (h : K.lookup a = some o) : SqT K (fun _ => none) a xs := by
  obtain ⟨its, n, c, d, z, r⟩ := t
  exact Or.inr ⟨o, its, n, h, c, d, z, r⟩
theorem sq_any {K : PySem.W.Frag} {H : Hp} {a : Addr} {xs : List V} (h : SqT K (fun _ => none) a xs) : SqT K H a xs := sameT (fun _ _ z => by cases z) h
theorem hu65 {A : Around} {k : Nat} (hr : Room k A) : A.units + 65 < cLine := by
  have := hr.un
  omega
/-! ### rules with the written part said, for what stands in a comprehension -/
section
variable {X : Cx}
def rLenK (K : PySem.W.Frag) : List V → Hp → VK → Prop := fun xs H Q => ∃ p ys, xs = [V.ref p] ∧ (SqL K H p ys ∨ SqT K H p ys) ∧ Q (.int ys.length) H
theorem lenK (K : PySem.W.Frag) (h : X.K = K) : CallR X (.builtin "len") (rLenK K) := h ▸ call_len_seq
theorem ixLK (K : PySem.W.Frag) (h : X.K = K) : IxR X (rIxL K) := h ▸ ix_list
theorem ixTK (K : PySem.W.Frag) (h : X.K = K) : IxR X (rIxT K) := h ▸ ix_tup
theorem isDK (K : PySem.W.Frag) (T : String) (hT : T ∈ ["tuple", "int", "bool", "str", "list"]) (h : X.K = K) : CallR X (.builtin "isinstance") (rIsD K T) := h ▸ call_isD T hT
theorem catSK (K : PySem.W.Frag) (h : X.K = K) : OpR X (binaryOp .Add) (rCatS K) := h ▸ op_catS
theorem inK (K : PySem.W.Frag) (h : X.K = K) : OpR X (compareOp .In) (rIn K false) := h ▸ op_in_seq
theorem notInK (K : PySem.W.Frag) (h : X.K = K) : OpR X (compareOp .NotIn) (rIn K true) := h ▸ op_notIn_seq
theorem slSK (K : PySem.W.Frag) (h : X.K = K) : SlR X (rCutS K) := h ▸ sl_tupS
end
/-! ### what may change while a script is drawn from, and while code runs that has tables -/
/-- the heap without the tables of code: where data stands -/
def offT (H : Hp) : Hp := fun b => match H b with
  | some (.tbl _) => none
  | o => o
theorem offT_at {b : Addr} {H : Hp} {o : HO} (h : H b = some o) (nt : ∀ q, o ≠ .tbl q := by intro _ z; cases z) : offT H b = some o := by
  unfold offT
  rw [h]
  cases o <;> first | rfl | exact absurd rfl (nt _)
theorem offT_some {b : Addr} {H : Hp} {o : HO} (h : offT H b = some o) : H b = some o ∧ ∀ q, o ≠ .tbl q := by
  unfold offT at h
  cases e : H b with
  | none => rw [e] at h; cases h
  | some u =>
    rw [e] at h
    cases u <;> first | (cases h; done) | (cases h; exact ⟨rfl, fun _ z => by cases z⟩)
/-- the heap without p and the tables of code: where data stands that does not change -/
def off (p : Addr) (H : Hp) : Hp := fun b => if b = p then none else offT H b
theorem off_at {p b : Addr} {H : Hp} {o : HO} (n : b ≠ p) (h : H b = some o) (nt : ∀ q, o ≠ .tbl q := by intro _ z; cases z) : off p H b = some o := by
  unfold off
  rw [if_neg n]
  exact offT_at h nt
theorem off_same {p : Addr} {H : Hp} : off p H p = none := if_pos rfl
theorem off_none {p b : Addr} {H : Hp} (h : H b = none) : off p H b = none := by
  unfold off offT
  rw [h]
  split <;> rfl
theorem off_some {p b : Addr} {H : Hp} {o : HO} (h : off p H b = some o) : b ≠ p ∧ H b = some o ∧ ∀ q, o ≠ .tbl q := by
  by_cases e : b = p
  · rw [e, off_same] at h
    cases h
  · unfold off at h
    rw [if_neg e] at h
    exact ⟨e, offT_some h⟩
theorem off_in {p : Addr} {H : Hp} : Same (off p H) H := fun b o h => (off_some h).2.1
theorem offT_in {H : Hp} : Same (offT H) H := fun b o h => (offT_some h).1
/-- tables only grow -/
def Tabs (H J : Hp) : Prop := ∀ b q, H b = some (.tbl q) → ∃ q', J b = some (.tbl q') ∧ (TriplesOk q.toList → TriplesOk q'.toList)
theorem Tabs.trans {H J L : Hp} (a : Tabs H J) (b : Tabs J L) : Tabs H L := fun c q e => let ⟨q', e', f⟩ := a c q e; let ⟨q2, e2, f2⟩ := b c q' e'; ⟨q2, e2, fun z => f2 (f z)⟩
theorem Tabs.of_same {H J : Hp} (h : Same H J) : Tabs H J := fun b q e => ⟨q, h _ _ e, id⟩
theorem Tabs.tab {H J : Hp} (h : Tabs H J) {P : Addr} (g : GxR.TabG H P) : GxR.TabG J P := let ⟨q, e, z⟩ := g; let ⟨q', e', f⟩ := h P q e; ⟨q', e', f z⟩
theorem Tabs.put {q : Addr} {G J : Hp} {o : HO} (h : Tabs G J) (n : G q = none) : Tabs G (upd J q o) := fun b x e => by
  rw [upd_ne (ne_of_none e n)]
  exact h b x e
/-- all data is as it was, tables of code may have grown -/
structure Grow (H J : Hp) : Prop where
  s : Same (offT H) (offT J)
  t : Tabs H J
theorem Grow.refl (H : Hp) : Grow H H := ⟨Same.refl _, Tabs.of_same (Same.refl _)⟩
theorem Grow.trans {H J L : Hp} (a : Grow H J) (b : Grow J L) : Grow H L := ⟨a.s.trans b.s, a.t.trans b.t⟩
theorem Grow.of_same {H J : Hp} (h : Same H J) : Grow H J := ⟨fun b u e => let z := offT_some e; offT_at (h _ _ z.1) z.2, Tabs.of_same h⟩
theorem Grow.new {q : Addr} {H : Hp} {o : HO} (h : H q = none) : Grow H (upd H q o) := Grow.of_same fun b u e => by
  rw [upd_ne (ne_of_none e h)]
  exact e
theorem Grow.at {a : Addr} {H J : Hp} {o : HO} (k : Grow H J) (h : H a = some o) (nt : ∀ q, o ≠ .tbl q := by intro _ z; cases z) : J a = some o := (offT_some (k.s a o (offT_at h nt))).1
theorem Grow.write {q : Addr} {G J : Hp} {o : HO} (k : Grow G J) (h : G q = none) : Grow G (upd J q o) :=
  ⟨fun b u e => let z := offT_some e; offT_at (by rw [upd_ne (ne_of_none z.1 h)]; exact k.at z.1 z.2) z.2, k.t.put h⟩
theorem Grow.tabbed {P : Addr} {H J : Hp} (g : GxR.TabG H P) (h : GxR.Tabbed P H J) : Grow H J := by
  obtain ⟨⟨q', e', z'⟩, k⟩ := h
  obtain ⟨q, e, _⟩ := g
  refine ⟨fun b u eb => ?_, fun b x eb => ?_⟩
  · have y := offT_some eb
    have bp : b ≠ P := fun w => by
      rw [w, e] at y
      exact y.2 q (Option.some.inj y.1).symm
    exact offT_at (by rw [k b bp]; exact y.1) y.2
  · by_cases bp : b = P
    · rw [bp]
      exact ⟨q', e', fun _ => z'⟩
    · exact ⟨x, by rw [k b bp]; exact eb, id⟩
theorem Grow.free {q : Addr} {H J : Hp} (k : Grow H J) (h : J q = none) : H q = none := by
  cases e : H q with
  | none => rfl
  | some o =>
    cases o with
    | tbl x =>
      obtain ⟨x', e', _⟩ := k.t q x e
      rw [e'] at h
      cases h
    | _ =>
      rw [k.at e] at h
      cases h
theorem Grow.seq {K : PySem.W.Frag} {a : Addr} {H J : Hp} {xs : List V} (k : Grow H J) (h : SqL K H a xs) : SqL K J a xs := by
  rcases h with (h | ⟨o, h⟩) | h
  · exact Or.inl (Or.inl (k.at h))
  · exact Or.inl (Or.inr ⟨o, k.at h⟩)
  · exact Or.inr h
theorem Grow.tup {K : PySem.W.Frag} {a : Addr} {H J : Hp} {xs : List V} (k : Grow H J) (h : SqT K H a xs) : SqT K J a xs := by
  rcases h with (h | ⟨o, h⟩) | h
  · exact Or.inl (Or.inl (k.at h))
  · exact Or.inl (Or.inr ⟨o, k.at h⟩)
  · exact Or.inr h
/-- all but p and the tables is as it was, and p's first item is the same object -/
structure Keep (p : Addr) (H J : Hp) : Prop where
  s : Same (off p H) (off p J)
  h : ∀ (l : Addr) (r : List V), H p = some (.lst (.ref l :: r)) → ∃ r', J p = some (.lst (.ref l :: r'))
  t : Tabs H J
theorem Keep.refl (p : Addr) (H : Hp) : Keep p H H := ⟨Same.refl _, fun _ r h => ⟨r, h⟩, Tabs.of_same (Same.refl _)⟩
theorem Keep.trans {p : Addr} {H J L : Hp} (a : Keep p H J) (b : Keep p J L) : Keep p H L := ⟨a.s.trans b.s, fun l r h => let ⟨r', h'⟩ := a.h l r h; b.h l r' h', a.t.trans b.t⟩
theorem Keep.put {p l : Addr} {H : Hp} {r r' : List V} (h : H p = some (.lst (.ref l :: r))) : Keep p H (upd H p (.lst (.ref l :: r'))) := by
  refine ⟨fun b u e => ?_, fun m z e => ?_, fun b q e => ?_⟩
  · have q := off_some e
    exact off_at q.1 (by rw [upd_ne q.1]; exact q.2.1) q.2.2
  · rw [h] at e
    cases e
    exact ⟨r', upd_same⟩
  · have n : b ≠ p := fun z => by
      rw [z, h] at e
      cases e
    exact ⟨q, by rw [upd_ne n]; exact e, id⟩
theorem Keep.of_grow {p : Addr} {H J : Hp} (g : Grow H J) : Keep p H J := by
  refine ⟨fun b u e => ?_, fun l r e => ⟨r, g.at e⟩, g.t⟩
  have z := off_some e
  exact off_at z.1 (g.at z.2.1 z.2.2) z.2.2
theorem Keep.of_same {p : Addr} {H J : Hp} (h : Same H J) : Keep p H J := Keep.of_grow (Grow.of_same h)
theorem Keep.new {p q : Addr} {H : Hp} {o : HO} (h : H q = none) : Keep p H (upd H q o) := Keep.of_same fun b u e => by
  rw [upd_ne (ne_of_none e h)]
  exact e
theorem Keep.at {p a : Addr} {H J : Hp} {o : HO} (k : Keep p H J) (n : a ≠ p) (h : H a = some o) (nt : ∀ q, o ≠ .tbl q := by intro _ z; cases z) : J a = some o :=
  (off_some (k.s a o (off_at n h nt))).2.1
/-- an object that was not yet there is changed -/
theorem Keep.write {p q : Addr} {G J : Hp} {o : HO} (k : Keep p G J) (h : G q = none) (n : q ≠ p) : Keep p G (upd J q o) := by
  refine ⟨fun b u e => ?_, fun m r e => ?_, k.t.put h⟩
  · have z := off_some e
    exact off_at z.1 (by rw [upd_ne (ne_of_none z.2.1 h)]; exact k.at z.1 z.2.1 z.2.2) z.2.2
  · obtain ⟨r', q⟩ := k.h m r e
    exact ⟨r', by rw [upd_ne n.symm]; exact q⟩
theorem seq_off {K : PySem.W.Frag} {p a : Addr} {H : Hp} {xs : List V} (n : a ≠ p) (h : SqL K H a xs) : SqL K (off p H) a xs := by
  rcases h with (h | ⟨o, h⟩) | h
  · exact Or.inl (Or.inl (off_at n h))
  · exact Or.inl (Or.inr ⟨o, off_at n h⟩)
  · exact Or.inr h
theorem Keep.seq {K : PySem.W.Frag} {p a : Addr} {H J : Hp} {xs : List V} (k : Keep p H J) (n : a ≠ p) (h : SqL K H a xs) : SqL K J a xs := off_in.seq (k.s.seq (seq_off n h))
theorem tup_off {K : PySem.W.Frag} {p a : Addr} {H : Hp} {xs ys : List V} (hp : H p = some (.lst ys)) (h : SqT K H a xs) : SqT K (off p H) a xs := by
  rcases h with (h | ⟨o, h⟩) | h
  · exact Or.inl (Or.inl (off_at (ne_of h hp (by intro z; cases z)) h))
  · exact Or.inl (Or.inr ⟨o, off_at (ne_of h hp (by intro z; cases z)) h⟩)
  · exact Or.inr h
/-! ### tuple(e for x in range(..) if t): numbers, told by the place -/
section
variable {X : Cx}
theorem cr_rangeOne : CallR X (.type "range") (fun vs H Q => ∃ j : Int, vs = [.int j] ∧ ∀ p, H p = none → Q (.ref p) (upd H p (.rng 0 j))) := by
  intro pins s σ H vs us Q I r h
  obtain ⟨j, rfl, q⟩ := h
  obtain ⟨u, rfl, t, rfl⟩ := vals1 r
  refine call_range_1 ⟨.ref s.heap.objs.size, upd H s.heap.objs.size (.rng 0 j), I.laid (t' := s.toks + 1 + 1) (fun b o e => Heap.get?_push_of_some _ e) (Nat.le_refl _) ?_, rfl, q _ (I.hok.fresh (Nat.le_refl _))⟩
  exact ⟨s.toks, t, s.toks + 1, Heap.get?_push_size _ rfl⟩
theorem cr_rangeTwo : CallR X (.type "range") (fun vs H Q => ∃ i j : Int, vs = [.int i, .int j] ∧ ∀ p, H p = none → Q (.ref p) (upd H p (.rng i j))) := by
  intro pins s σ H vs us Q I r h
  obtain ⟨i, j, rfl, q⟩ := h
  obtain ⟨u1, u2, rfl, ⟨t, rfl⟩, ⟨u, rfl⟩⟩ := vals2 r
  refine call_range_2 ⟨.ref s.heap.objs.size, upd H s.heap.objs.size (.rng i j), I.laid (t' := s.toks + 1) (fun b o e => Heap.get?_push_of_some _ e) (Nat.le_refl _) ?_, rfl, q _ (I.hok.fresh (Nat.le_refl _))⟩
  exact ⟨t, u, s.toks, Heap.get?_push_size _ rfl⟩
end
theorem vals_at {f : Nat → Int} : ∀ (l : List Nat) (us : List Value), us.length = l.length → (∀ (j : Nat) (v : Value), us[j]? = some v → ∃ i, l[j]? = some i ∧ ∃ t, v = .int (f i) t) → Vals (l.map fun i => V.int (f i)) us
  | [], [], _, _ => .nil
  | [], _ :: _, h, _ => by simp at h
  | _ :: _, [], h, _ => by simp at h
  | i :: l, u :: us, h, g => by
    obtain ⟨i', e, t, ht⟩ := g 0 u rfl
    have e' : i = i' := Option.some.inj e
    rw [List.map_cons]
    refine .cons (by rw [e']; exact ⟨t, ht⟩) (vals_at l us (by simpa using h) fun j v hv => ?_)
    obtain ⟨k, e2, z⟩ := g (j + 1) v hv
    exact ⟨k, e2, z⟩
/-- the tests and the element of a generator expression, at its i-th place, wherever its frame stands -/
def ElemOk (X : Cx) (scope : Scope) (x : Str) (ifs : List Expr) (elt : Expr) (lo : Int) (n : Nat) (pz : Nat → Bool) (f : Nat → Int) (P : Addr) (s1 : Shared) : Prop :=
  ∀ (cenv : Env) (A' : Around) (E' : Value → Shared → Prop) (i : Nat) (t : Tok) (s2 : Shared) (m2 : Str → Option Value), i < n → cenv.scope = scope → cenv.cells = cloFrom X.env.cells scope.names [] → A'.handled = none →
    s2.heap.Ns cenv.locals m2 → m2 x = some (.int (lo + i) t) → (∀ b o, b ≠ P → s1.heap.get? b = some o → s2.heap.get? b = some o) →
      wpAny (model X.prog X.w) A' (forIn ifs true fun c r => if r = true then do let ok ← isTrue c cenv (eval c cenv); pure (ForInStep.yield ok) else pure (ForInStep.yield r)) (fun ok s3 => ok = pz i ∧ PySem.Keeps s2 s3) E' s2 ∧
      (pz i = true → wpAny (model X.prog X.w) A' (eval elt cenv) (fun y s3 => (∃ u, y = .int (f i) u) ∧ PySem.Keeps s2 s3) E' s2)
def tTupG (X : Cx) (P : Addr) (scope : Scope) (x : Str) (ifs : List Expr) (elt : Expr) (te : TE) : TE := fun σ H Q => te σ H fun v H1 => ∃ (r : Addr) (lo hi : Int) (pz : Nat → Bool) (f : Nat → Int), v = .ref r ∧ H1 r = some (.rng lo hi) ∧ -(2 ^ 62) ≤ lo ∧ lo < 2 ^ 62 ∧ -(2 ^ 62) ≤ hi ∧ hi < 2 ^ 62 ∧
  (hi - lo).toNat ≤ sizeLine ∧ GxR.TabG H1 P ∧ (∀ pins s1, Inv X pins σ H1 s1 → ElemOk X scope x ifs elt lo (hi - lo).toNat pz f P s1) ∧
  ∀ (t : Addr) (H2 : Hp), GxR.Tabbed P H1 H2 → H2 t = none → Q (.ref t) (upd H2 t (.tup (((List.range (hi - lo).toNat).filter pz).map fun i => V.int (f i))))
section
variable {X : Cx}
theorem pe_tupG {c P : Addr} {elt iter : Expr} {ifs : List Expr} {x : Str} {px p pos gpos : Pos} {scope : Scope} {te : TE} {k : Nat}
    (hr : Room k X.A) (hg : Gl X "tuple") (hm : X.mg "tuple" = none) (TB : GxR.TabB X.base X.mg c P) (hcode : X.env.code = .ref c) (S : GxR.GenS X.env scope x) (hi : PE X iter te) (hs : ∀ v, genFold iter X.env v = pure v)
    (hc : X.calm = true) (he : starEach [.GeneratorExp elt [⟨.Name x px, iter, ifs, 0⟩] scope gpos] X.env = (false, eval (.GeneratorExp elt [⟨.Name x px, iter, ifs, 0⟩] scope gpos) X.env) :: starEach [] X.env := by rfl) :
    PE X (.Call (.Name "tuple" p) [.GeneratorExp elt [⟨.Name x px, iter, ifs, 0⟩] scope gpos] [] pos) (tTupG X P scope x ifs elt te) := by
  refine ⟨fun pins s σ H Q I h => ?_⟩
  refine wpAny_Call_Name_kw (ld_blt I hg hm (show bootBuiltins "tuple" = some (.type "tuple") by decide +kernel) ?_)
  refine PyProof.Rows.callWith_type1 ?_ he (by rfl)
  rw [he]
  show wpAny _ _ (spliced ((false, eval (.GeneratorExp elt [⟨.Name x px, iter, ifs, 0⟩] scope gpos) X.env) :: backTo pos (starEach [] X.env))) _ _ s
  refine Calls.spliced_cons ?_
  refine wpAny_GeneratorExp_walksQ (I.ok.hd hc) S.co (closure_ok S.free) S.cell S.dot S.loc S.kind (by have := hr.dp; omega) ?_ hs
  refine thn (hi.run pins s σ H _ I h) fun xv s1 ⟨v, H1, I1, r1, r, lo, hi', pz, f, ev, hR, b1, b2, b3, b4, hz, ⟨ps, hP, ht⟩, hE, q⟩ => ?_
  subst ev
  cases r1
  obtain ⟨ta, tb, tc, hRo⟩ := I1.hok r _ hR
  refine wpAny_pyIter_range hRo (small_one b1 b2 b3 b4) ?_
  have hn : Builtin.Range.rangeSize lo hi' 1 = ((hi' - lo).toNat : Int) := by
    rw [rangeSize_one]
    split <;> omega
  rw [hn]
  generalize hO : ({ cls := .type "range_iterator", data := .fields #[rawInt lo, rawInt ((hi' - lo).toNat : Int), rawInt 1] } : Obj) = ob
  have hIt : IsRangeIter (s1.heap.push ob) s1.heap.objs.size lo ((hi' - lo).toNat : Int) 1 := by
    rw [← hO]
    exact Heap.get?_push_size _ rfl
  have gP : s1.heap.get? P = some { cls := .none, data := .fields ps } := I1.hok P _ hP
  have Plt : P < s1.heap.objs.size := Heap.lt_size gP
  have gP2 : (s1.heap.push ob).get? P = some { cls := .none, data := .fields ps } := Heap.get?_push_of_some _ gP
  have cd : PySem.W.CodeHd (s1.heap.push ob) c P := TB.code.keeps fun b u e => Heap.get?_push_of_some _ (I1.bk b u e)
  have lim2 : (s1.heap.push ob).NoLimit := I1.nolimit.push ob
  have main : ∀ (code : Value) (h3 : Heap) (tk : Nat) (qs : Array Value), Heap.ExtBut P (s1.heap.push ob) h3 → (s1.heap.push ob).objs.size ≤ h3.objs.size → h3.get? P = some { cls := .none, data := .fields qs } → (∃ more, qs = ps ++ more) → TriplesOk qs.toList →
      wpAny (model X.prog X.w) X.A (builtinsFor X.env.globals X.env.builtins) (fun bi s4 =>
        ∃ Ia fp wr n0 Pf St0 pz F, Value.ref s1.heap.objs.size = .ref Ia ∧ (∀ A' : Around, A'.handled = none → Walks X.prog X.w A' Ia fp wr n0 Pf St0) ∧ St0 0 s4.heap ∧ (∀ b ∈ fp, b < s4.heap.objs.size) ∧ s4.heap.NoLimit ∧ cStatics ∉ wr ∧
          (∀ href : Heap, (∀ b o, s4.heap.get? b = some o → href.get? b = some o) →
            QuietGen X.prog X.w (genEnv scope (cloFrom X.env.cells scope.names []) s4.heap.objs.size code bi X.env) x ifs elt (List.range s4.heap.objs.size) wr Pf pz F href) ∧
          (∀ a h5 tk gs, gs.bare = true → s4.heap.objs.size < a → h5.objs.size = a + 1 → (∀ b o, s4.heap.get? b = some o → h5.get? b = some o) →
            WalksS X.prog X.w X.A.in4 a (a :: s4.heap.objs.size :: List.range s4.heap.objs.size) (s4.heap.objs.size :: wr) (GenOnlyQ s4.gens.size) (passing pz n0 0).length
              (fun j y => ∃ i, (passing pz n0 0)[j]? = some i ∧ F i y) (GenAt X.prog X.w X.A.in4 a s4.gens.size s4.heap.objs.size (List.range s4.heap.objs.size) wr pz n0 F) →
            GenAt X.prog X.w X.A.in4 a s4.gens.size s4.heap.objs.size (List.range s4.heap.objs.size) wr pz n0 F 0 { s4 with gens := s4.gens.push gs, toks := tk, heap := h5 } →
            wpAny (model X.prog X.w) X.A (spliced (backTo pos (starEach [] X.env)))
              (fun a_1 s' => wpAny (model X.prog X.w) X.A (call (.type "tuple") (.ref a :: a_1)) (EP X pins σ Q) X.xe s') X.xe { s4 with gens := s4.gens.push gs, toks := tk, heap := h5 })) X.xe { s1 with heap := h3, toks := tk } := by
    intro code h3 tk qs hx hsz gP3 hmore ht3
    obtain ⟨bm, bo, e1, e2, e3, e4, e5, e6, e7, e8⟩ := TB.bm
    have csP : cStatics ≠ P := fun e => by
      obtain ⟨_, hns, _⟩ := I1.nolimit
      obtain ⟨o', es, ep, ho, hd, _⟩ := hns
      rw [e, gP] at ho
      cases ho
      cases hd
    have cl : cStatics < s1.heap.objs.size := let ⟨_, hns, _⟩ := I1.nolimit; hns.lt
    have sz2 : (s1.heap.push ob).objs.size = s1.heap.objs.size + 1 := Heap.size_push ..
    have kp3 : ∀ b u, b ≠ P → s1.heap.get? b = some u → h3.get? b = some u := fun b u hb e => hx b u hb (Heap.get?_push_of_some _ e)
    refine wpAny_builtinsFor (m := X.mg) (by rw [I1.ok.glob]; exact ((I1.mod.glob.keeps I1.bk).push ob).extBut hx TB.gP) e1 e2 (kp3 _ _ e4 (I1.bk _ _ e5)) e6 e7 e8 ?_
    refine ⟨s1.heap.objs.size, [s1.heap.objs.size], [s1.heap.objs.size], (hi' - lo).toNat, (fun i v => i < (hi' - lo).toNat ∧ ∃ t, v = .int (lo + (i : Nat) * 1) t), _, pz, (fun i y => ∃ u, y = .int (f i) u), rfl, (fun A' hA => (Walks.range hA _ lo 1 _).bound), ?_, ?_, lim2.extBut hx csP, ?_, ?_, ?_⟩
    · show IsRangeIter h3 s1.heap.objs.size (lo + ((0 : Nat) : Int) * 1) (((hi' - lo).toNat : Int) - ((0 : Nat) : Int)) 1
      have z1 : lo + ((0 : Nat) : Int) * 1 = lo := by simp
      have z2 : ((hi' - lo).toNat : Int) - ((0 : Nat) : Int) = ((hi' - lo).toNat : Int) := by simp
      rw [z1, z2]
      exact hx _ _ (Nat.ne_of_gt Plt) hIt
    · intro b hb
      rw [List.mem_singleton.mp hb]
      show s1.heap.objs.size < h3.objs.size
      omega
    · intro z
      exact Nat.ne_of_lt cl (List.mem_singleton.mp z)
    · intro href hh
      have old : ∀ (s2 : Shared), (∀ b ∈ List.range h3.objs.size, b ∉ [s1.heap.objs.size] → ∀ o, href.get? b = some o → s2.heap.get? b = some o) → ∀ b o, b ≠ P → s1.heap.get? b = some o → s2.heap.get? b = some o := fun s2 hk b o hb e => by
        have lt1 := Heap.lt_size e
        refine hk b (List.mem_range.mpr (Heap.lt_size (kp3 b o hb e))) (fun z => ?_) o (hh b o (kp3 b o hb e))
        rw [List.mem_singleton.mp z] at lt1
        exact Nat.lt_irrefl _ lt1
      refine ⟨fun A' E' i v s2 m2 hA hv hns hm2 hk => ?_, fun A' E' i v s2 m2 hA hv hp hns hm2 hk => ?_⟩
      · obtain ⟨hi1, t, rfl⟩ := hv
        exact (hE pins s1 I1 _ A' E' i t s2 m2 hi1 rfl rfl hA hns (by rw [hm2]; simp) (old s2 hk)).1
      · obtain ⟨hi1, t, rfl⟩ := hv
        exact (hE pins s1 I1 _ A' E' i t s2 m2 hi1 rfl rfl hA hns (by rw [hm2]; simp) (old s2 hk)).2 hp
    · intro g h5 tk5 gs bare hlt5 hsz5 hk5 W5 g0
      refine Calls.spliced_nil ?_
      have len0 : (passing pz (hi' - lo).toNat 0) = (List.range (hi' - lo).toNat).filter pz := by
        unfold passing
        rw [List.drop_zero]
      refine call_tuple_gen W5.in4_3 (fun i s9 h9 => h9.1.typeIs) g0 (fun b hb => ?_) List.mem_cons_self (fun s' acc hm' hacc => ?_) ?_
      · show b < h5.objs.size
        have a5 : h5.objs.size = g + 1 := hsz5
        have a6 : h3.objs.size < g := hlt5
        rw [a5]
        rcases List.mem_cons.mp hb with z | z
        · rw [z]
          exact Nat.lt_succ_self g
        · rcases List.mem_cons.mp z with z | z
          · rw [z]
            exact Nat.lt_succ_of_lt a6
          · have z2 : b < h3.objs.size := List.mem_range.mp z
            exact Nat.lt_succ_of_lt (Nat.lt_trans z2 a6)
      · obtain ⟨more, em⟩ := hmore
        have nw : ∀ b u, s1.heap.get? b = some u → b ∉ h3.objs.size :: [s1.heap.objs.size] := fun b u e hb => by
          have hl := Heap.lt_size e
          rcases List.mem_cons.mp hb with z | z
          · rw [z] at hl
            have h9 : (h3.objs.size : Nat) < s1.heap.objs.size := hl
            omega
          · rw [List.mem_singleton.mp z] at hl
            exact Nat.lt_irrefl _ hl
        have J := GxR.inv_tab (more := more) (h' := s'.heap) (g' := s'.gens) (d' := s'.drawn) (t' := s'.toks) I1 hP (fun b u hb e => hm'.heap b u (nw b u e) (hk5 b u (kp3 b u hb e)))
          (by rw [← em]; exact hm'.heap P _ (nw P _ gP) (hk5 P _ gP3)) (AllBare.movedS (I1.bare.push bare) hm')
        rw [GxR.sh_eta s1 s' hm'.os] at J
        have tabbed : GxR.Tabbed P H1 (upd H1 P (.tbl (ps ++ more))) := ⟨⟨ps ++ more, upd_same, by rw [← em]; exact ht3⟩, fun b hb => upd_ne hb⟩
        have sz : (((List.range (hi' - lo).toNat).filter pz).map fun i => V.int (f i)).length ≤ sizeLine := by
          rw [List.length_map]
          exact Nat.le_trans (List.length_filter_le _ _) (by rw [List.length_range]; exact hz)
        have vv : Vals (((List.range (hi' - lo).toNat).filter pz).map fun i => V.int (f i)) acc.toList := by
          refine vals_at _ _ ?_ fun j y hy => ?_
          · rw [Array.length_toList, hacc.1, len0]
          · obtain ⟨i, e9, u, z⟩ := hacc.2 j y (by simpa using hy)
            exact ⟨i, by rw [← len0]; exact e9, u, z⟩
        refine ⟨.ref _, _, J.laid (t' := s'.toks) (o := .tup _) (fun b o' z => Heap.get?_push_of_some _ z) (Nat.le_refl _) ⟨sz, acc.toList, vv, _, Heap.get?_push_size _ rfl, rfl, _, rfl⟩, rfl, q _ _ tabbed (J.hok.fresh (Nat.le_refl _))⟩
      · rw [len0]
        exact Nat.le_trans (List.length_filter_le _ _) (by rw [List.length_range]; exact hz)
  refine ⟨lim2, ?_⟩
  cases hf : codeAmong gpos ps.toList with
  | none =>
    refine wpAny_genexprCodeX hcode (cd.code gP2 ht) (cd.tab gP2) hf fun c' h' tk hx hge hlt hco' _ htab' _ => ?_
    obtain ⟨_, _, _, _, _, _, _, _, _, _, _, _, _, _, _, _, _, _, _, htr, _⟩ := hco'
    exact main _ h' tk _ hx (Nat.le_trans hge (Nat.le_of_lt hlt)) htab'.2 ⟨_, rfl⟩ htr
  | some cv =>
    refine wpAny_genexprCode_hit hcode (cd.code gP2 ht) hf ?_
    exact main cv (s1.heap.push ob) s1.toks ps (Heap.ExtBut.refl _ _) (Nat.le_refl _) gP2 ⟨#[], by simp⟩ ht
end
/-! ### the end of a law whose defs hold generator expressions: the tables of their code objects are tracked -/
def LawDoesT (P : Program) (w : World) (K : PySem.W.Frag) (mg : Str → Option Value) (base : Heap) (st : Stmt) (N : List Str) (f : Addr) (cs : List (Addr × Addr)) : Prop :=
  ∀ (cdv : Value) (s : Shared) (H : Hp) (a : Addr) (ns : List Int), ns.length ≤ 63 → (∀ p ∈ cs, H p.2 = some (.tbl #[])) → SqL K H a (ns.map V.int) →
    ∃ t, PSs (cxOf CX0 P w K mg base N "law" (defScope st) f cdv callerA [] s H E0).nox (defBody st) t ∧
      t { nx := fun _ _ => False, rt := fun v _ => v = .bl true } (start N [.ref a]) H
theorem law_atT {P : Program} {w : World} {K : PySem.W.Frag} {mg : Str → Option Value} {base : Heap} {st : Stmt} {N : List Str} {f a : Addr} {fd : FuncData} {s : Shared} {H : Hp} {ns : List Int} {x : Str} {cs : List (Addr × Addr)}
    (F : Fun K "law" "law" st f fd) (S : FnScope N [x] (defScope st)) (hr : Room 60 callerA) (D : LawDoesT P w K mg base st N f cs) (hT : ∀ p ∈ cs, H p.2 = some (.tbl #[]))
    (e0 : Env0 P w K mg base callerA [] s H) (hb : BindsTo s fd ⟨[.ref a], []⟩ [(x, .ref a)]) (hl : ns.length ≤ 63) (hS : SqL K H a (ns.map V.int)) :
    codeAny (model P w) callerA (.call (.ref f) ⟨[.ref a], []⟩) (CR CX0 [] P w H s (fun v _ => v = .bl true) E0) s := by
  obtain ⟨oc, od, kV, doc, pm, an, cdv, ct, osl, rfl, lk, hcd⟩ := F.ex
  have heap0 : K.In s.heap := e0.mod.kin.keeps fun b o e => (e0.bs b o e).1
  have lim0 := e0.mod.nolimit.keeps fun b o e => (e0.bs b o e).1
  have vals : Vals [V.ref a] [Value.ref a] := .cons rfl .nil
  refine codeAny_call_function hr.depth (heap0 _ _ lk) rfl S.co S.gen rfl (PySem.W.codeRec_of heap0 hcd) (hb _ _ _ _ ?_)
  refine wpAny_newFunctionEnv_cells S.kind (fun y hy => ?_) fun env he s1 ic => ?_
  · have ey : y = (x, Value.ref a) := List.mem_singleton.mp hy
    rw [ey]
    rcases S.par x (List.mem_singleton.mpr rfl) with q | q
    · exact Or.inl q
    · exact Or.inr ⟨q, PySem.W.cellsFrom_some _ _ _ (Or.inl q)⟩
  · subst he
    refine ⟨lim0.keeps ic.toInCall.keep, codeAny_func ?_⟩
    obtain ⟨t, pt, q⟩ := D cdv s H a ns hl hT hS
    have I := inv_start (CX := CX0) (E := E0) (cd := cdv) (f := f) (qual := "law") S hr.hd e0 rfl vals ic
    refine wpAny_mono (pt.nox.run [] s1 _ H _ I q) ?_ ?_
    · intro fl s2 h
      cases fl with
      | ret u =>
        obtain ⟨v, _, H2, J, rv, e⟩ := h
        exact ⟨v, H2, J.os, J.bare, J.base, J.hok, rv, e⟩
      | next => exact (let ⟨_, _, _, z⟩ := h; False.elim z)
      | brk => exact (let ⟨_, _, _, z⟩ := h; False.elim z)
      | cont => exact (let ⟨_, _, _, z⟩ := h; False.elim z)
    · exact fun _ _ z => z
/-- the tables, or the script -/
def tabsAt (cs : List (Addr × Addr)) (G : Hp) : Hp := fun b => if b ∈ cs.map (·.2) then some (.tbl #[]) else G b
/-- what is known of a def's code at the head's heap -/
def CodeKnown (mg : Str → Option Value) (h : Heap) (nm : Str) : Prop :=
  ∃ (a : Addr) (o : Obj) (fd : FuncData) (c P : Addr), mg nm = some (.ref a) ∧ h.get? a = some o ∧ o.data = .func fd ∧ fd.code = .ref c ∧ h.IsCode c P #[] ∧ h.TableAt c P #[]
theorem law_walkT {l : PySem.W.OpenLaw} {q : Program} {loose : List Str} {XP : (Str → Option Value) → Heap → Prop} {YP : World → Heap → Prop} {d : DefRec} {K : Params → PySem.W.Frag} {x : Str} {st : Stmt} {N : List Str} {nms : List Str}
    (hn : l.most = some 63) (hdf : d.params.defaults = []) (S : FnScope N [x] (defScope st)) (hY : ∀ (w : World) (h : Heap), YP w h → (K w.params).In h) (hrec : ∀ nm ∈ nms, ((recsOf q).any fun e => e.name == nm) = true)
    (Fm : ∀ (w : World) (mg : Str → Option Value) (fa : Addr) (h : Heap), (K w.params).In h → h.Ns mainGlobals mg → mg d.name = some (.ref fa) → (∀ nm ∈ nms, CodeKnown mg h nm) →
      ∃ (fd : FuncData) (cs : List (Addr × Addr)), Fun (K w.params) "law" "law" st fa fd ∧ (∀ (s : Shared) (u : Value), BindsTo s fd ⟨[u], []⟩ [(x, u)]) ∧
        (∀ p ∈ cs, h.get? p.2 = some { cls := .none, data := .fields #[] } ∧ (K w.params).lookup p.2 = none ∧ PySem.W.CodeHd h p.1 p.2 ∧ h.IsCode p.1 p.2 #[] ∧ h.TableAt p.1 p.2 #[]) ∧
        ∀ base : Heap, (K w.params).In base → (∀ p ∈ cs, GxR.TabB base mg p.1 p.2) → LawDoesT l.prog w (K w.params) mg base st N fa cs) :
    PySem.W.WalkO q loose XP YP l.row.toRowW d [] (fun f vs => PySem.call f vs) := by
  refine Att.attach_call hn hdf fun w s₀ s1 mg mb fa o pm cd doc a vs ns G Y ho hd hcd hmg hobj hints hlen hgen => ?_
  have hK := hY w _ Y
  have known : ∀ nm ∈ nms, CodeKnown mg s1.heap nm := fun nm hm => by
    obtain ⟨e, he, en⟩ := List.any_eq_true.mp (hrec nm hm)
    have en' : e.name = nm := beq_iff_eq.mp en
    rw [← en']
    exact G.T.tab e he
  obtain ⟨fd, cs, F, hbind, hcs, D⟩ := Fm w mg fa _ hK G.T.g hmg known
  have rv := vals_ints hints
  let u : HO := .frz { cls := .type "list", data := .seq vs.toArray } (.lst (ns.map V.int))
  let free : Bool := ((K w.params).lookup a).isNone
  let H : Hp := tabsAt cs (onlyAt a u free)
  have isT : ∀ b, b ∈ cs.map (·.2) → s1.heap.get? b = some { cls := .none, data := .fields #[] } ∧ (K w.params).lookup b = none := fun b hb => by
    obtain ⟨p, hp, e⟩ := List.mem_map.mp hb
    rw [← e]
    exact ⟨(hcs p hp).1, (hcs p hp).2.1⟩
  have aT : a ∉ cs.map (·.2) := fun z => by
    have e := (isT a z).1
    rw [hobj] at e
    cases e
  have cases3 : ∀ b, H b = none ∨ (b ∈ cs.map (·.2) ∧ H b = some (.tbl #[])) ∨ (b = a ∧ free = true ∧ H b = some u) := fun b => by
    by_cases hb : b ∈ cs.map (·.2)
    · exact Or.inr (Or.inl ⟨hb, if_pos hb⟩)
    · rcases onlyAt_cases a u free b with n | ⟨e, fr, y⟩
      · exact Or.inl ((if_neg hb).trans n)
      · exact Or.inr (Or.inr ⟨e, fr, (if_neg hb).trans y⟩)
  have lenV : vs.length = ns.length := hints.length
  have small : ns.length ≤ sizeLine := Nat.le_trans hlen (by decide)
  have hS : SqL (K w.params) H a (ns.map V.int) := by
    cases e : (K w.params).lookup a with
    | none =>
      refine Or.inl (Or.inr ⟨{ cls := .type "list", data := .seq vs.toArray }, ?_⟩)
      show tabsAt cs (onlyAt a u free) a = some u
      unfold tabsAt
      rw [if_neg aT]
      exact if_pos ⟨rfl, by show ((K w.params).lookup a).isNone = true; rw [e]; rfl⟩
    | some ob =>
      have e1 := (hK a ob e).symm.trans hobj
      cases Option.some.inj e1
      exact Or.inr ⟨_, vs.toArray, _, e, rfl, rfl, rfl, by rw [List.size_toArray, lenV]; exact small, by rw [List.toList_toArray]; exact rv⟩
  have hHok : HOk l.prog w H s1.heap := fun b z e => by
    rcases cases3 b with n | ⟨hb, y⟩ | ⟨rfl, _, y⟩
    · cases n.symm.trans e
    · cases y.symm.trans e
      exact (isT b hb).1
    · cases y.symm.trans e
      exact ⟨hobj, by rw [List.length_map]; exact small, vs, _, rv, hobj⟩
  have isN : ∀ {b : Addr} {ob : Obj}, s1.heap.get? b = some ob → (∀ its n, ob.data ≠ .seq its n) → ob.data ≠ .fields #[] → H b = none := fun {b ob} e nd nf => by
    rcases cases3 b with n | ⟨hb, _⟩ | ⟨rfl, _, _⟩
    · exact n
    · cases (isT b hb).1.symm.trans e
      exact absurd rfl nf
    · cases hobj.symm.trans e
      exact absurd rfl (nd _ _)
  have nsK : ∀ {b : Addr} {m : Str → Option Value}, s1.heap.Ns b m → (hidT s1.heap H).Ns b m := by
    rintro b m ⟨ob, es, ep, e, dt, r⟩
    exact ⟨ob, es, ep, hidT_get e (isN e (fun its n z => nomatch dt.symm.trans z) fun z => nomatch dt.symm.trans z), dt, r⟩
  have inB : (K w.params).In (hidT s1.heap H) := fun b ob e => hidT_get (hK b ob e) (by
    rcases cases3 b with n | ⟨hb, _⟩ | ⟨rfl, fr, _⟩
    · exact n
    · rw [(isT b hb).2] at e
      cases e
    · have fr' : ((K w.params).lookup b).isNone = true := fr
      rw [e] at fr'
      cases fr')
  have hM : Mod (K w.params) mg (hidT s1.heap H) := ⟨inB, nsK G.T.g, ⟨mb, nsK G.T.b, G.T.builtins⟩, let ⟨mc, h1, h2⟩ := G.T.nolimit; ⟨mc, nsK h1, h2⟩⟩
  have TB : ∀ p ∈ cs, GxR.TabB (hidT s1.heap H) mg p.1 p.2 := fun p hp => by
    obtain ⟨t1, t2, t3, _⟩ := hcs p hp
    refine ⟨?_, ?_, fun z => ?_⟩
    · obtain ⟨ob, us, file, tf, flags, tg, inF, text, tt, e1, r1, r2, r3, r⟩ := t3
      refine ⟨ob, us, file, tf, flags, tg, inF, text, tt, hidT_get e1 (isN e1 (fun its n z => ?_) fun z => ?_), r1, r2, r3, r⟩
      · rw [r2] at z
        cases z
      · rw [r2] at z
        cases z
        simp at r3
    · obtain ⟨bm, ob, b1, b2, b3, b4, b5, b6⟩ := G.T.bmain
      have nG : bm ≠ mainGlobals := fun z => by
        obtain ⟨o', es, ep, e, hd', _⟩ := G.T.g
        rw [z, e] at b3
        cases b3
        rw [hd'] at b6
        cases b6
      have nP : bm ≠ p.2 := fun z => by
        rw [z, t1] at b3
        cases b3
        cases b6
      refine ⟨bm, ob, b1, b2, nG, nP, hidT_get b3 (isN b3 (fun its n z => ?_) fun z => ?_), b4, b5, b6⟩
      · rw [b6] at z
        cases z
      · rw [b6] at z
        cases z
    · obtain ⟨o', es, ep, e, hd', _⟩ := G.T.g
      rw [z, t1] at e
      cases e
      cases hd'
  have e0 : Env0 l.prog w (K w.params) mg (hidT s1.heap H) callerA [] s1 H :=
    { frames := rfl, mod := hM, bs := fun b ob e => of_hidT e, bsz := Nat.le_of_eq (hidT_size _ _), funs := True.intro, frf := fun b hb => (List.not_mem_nil hb).elim, hok := hHok, bare := .of_eq hgen }
  have hT : ∀ p ∈ cs, H p.2 = some (.tbl #[]) := fun p hp => if_pos (List.mem_map.mpr ⟨p, hp, rfl⟩)
  refine codeAny_mono (law_atT F S ⟨rfl, by decide, by decide⟩ (D _ inB TB) hT e0 (hbind s1 (.ref a)) hlen hS) fun r s2 h => ?_
  cases r with
  | error e => exact False.elim h
  | ok fl =>
    cases fl with
    | next => exact False.elim h
    | brk => exact False.elim h
    | cont => exact False.elim h
    | ret v0 =>
      obtain ⟨v, H2, os, bare, un, hok2, r2, ev⟩ := h
      have ev' : v = .bl true := ev
      rw [ev'] at r2
      have e3 : v0 = Value.bool true := r2
      rw [e3]
      have key : ∀ b ob, b ∉ cs.map (·.2) → s1.heap.get? b = some ob → s2.heap.get? b = some ob := fun b ob nb e => by
        rcases cases3 b with n | ⟨hb, _⟩ | ⟨rfl, _, y⟩
        · exact un.keep b ob e n List.not_mem_nil List.not_mem_nil
        · exact absurd hb nb
        · have k2 := hok2 b _ (un.frzs b _ _ y)
          cases hobj.symm.trans e
          exact k2.1
      have grown : ∀ p ∈ cs, ∃ more : Array Value, s2.heap.get? p.2 = some { cls := .none, data := .fields more } := fun p hp => by
        obtain ⟨more, z⟩ := un.tbls p.2 #[] (hT p hp)
        exact ⟨_, hok2 p.2 _ z⟩
      refine ⟨rfl, ⟨fun b ob e => ?_, fun b ob e => ?_⟩, os, bare⟩
      · by_cases hb : b ∈ cs.map (·.2)
        · obtain ⟨p, hp, ep⟩ := List.mem_map.mp hb
          obtain ⟨more, hm⟩ := grown p hp
          rw [← ep] at e ⊢
          obtain ⟨t1, _, t3, _⟩ := hcs p hp
          rw [t1] at e
          cases e
          exact Or.inr (Or.inl ⟨(t3.tab t1).isCodeTable, rfl, #[], more, rfl, by rw [Array.empty_append]; exact hm⟩)
        · exact Or.inl (key b ob hb e)
      · by_cases hb : b ∈ cs.map (·.2)
        · obtain ⟨p, hp, ep⟩ := List.mem_map.mp hb
          obtain ⟨more, hm⟩ := grown p hp
          rw [← ep]
          exact ⟨_, hm⟩
        · exact ⟨ob, key b ob hb e⟩
/-! ### expressions inside a generator expression's own frame, whatever has come since the state s -/
theorem keepsT {a b c : Shared} (x : PySem.Keeps a b) (y : PySem.Keeps b c) : PySem.Keeps a c := by
  obtain ⟨h, t, rfl, k⟩ := x
  obtain ⟨h2, t2, rfl, k2⟩ := y
  exact ⟨h2, t2, rfl, fun b o e => k2 b o (k b o e)⟩
theorem keepsK {a b : Shared} (x : PySem.Keeps a b) (t : Nat) : PySem.Keeps a { b with toks := t } := keepsT x (GxR.keeps_tok b t)
theorem keepsH {a b : Shared} (x : PySem.Keeps a b) : ∀ c o, a.heap.get? c = some o → b.heap.get? c = some o := by
  obtain ⟨h, t, rfl, k⟩ := x
  exact k
def GV (P : Program) (w : World) (A : Around) (env : Env) (s : Shared) (e : Expr) (R : Value → Prop) : Prop :=
  ∀ (E : Value → Shared → Prop) (s1 : Shared), PySem.Keeps s s1 → wpAny (model P w) A (eval e env) (fun y s2 => R y ∧ PySem.Keeps s s2) E s1
abbrev IsI (i : Int) : Value → Prop := fun y => ∃ t, y = .int i t
section
variable {P : Program} {w : World} {A : Around} {env : Env} {s : Shared} {a b : Expr} {pos p : Pos} {x : Str}
theorem gv_loc {m : Str → Option Value} {v : Value} {R : Value → Prop} (hk : env.scope.kind = .function) (hl : env.scope.names.lookup x = some .local) (hn : s.heap.Ns env.locals m) (hv : m x = some v) (r : R v) (hd : (x == ("__debug__" : Str)) = false := by decide) :
    GV P w A env s (.Name x p) R := fun E s1 k =>
  wpAny_Name (wpAny_loadName_local hk (show env.scope.names.lookup x = some .local from hl) (hn.keeps (keepsH k)) hv ⟨r, k⟩) hd
theorem gv_free {c : Addr} {v : Value} {R : Value → Prop} (hk : env.scope.kind = .function) (hl : env.scope.names.lookup x = some .free) (hc : env.cells.lookup x = some c) (hv : s.heap.IsCell c (some v)) (r : R v) (hd : (x == ("__debug__" : Str)) = false := by decide)
    (hcd : (x == ("__classdict__" : Str)) = false := by decide) : GV P w A env s (.Name x p) R := fun E s1 k =>
  wpAny_Name (wpAny_loadName_free hk (show env.scope.names.lookup x = some .free from hl) hc (let ⟨o, ho, hd⟩ := hv; ⟨o, keepsH k _ _ ho, hd⟩) ⟨r, k⟩ hcd) hd
theorem gv_int {i : Int} {j : Nat} : GV P w A env s (.Constant (.int i) j pos) (IsI i) := fun E s1 k => wpAny_Constant_int ⟨⟨_, rfl⟩, keepsK k _⟩
theorem gv_sub {i j : Int} (ha : GV P w A env s a (IsI i)) (hb : GV P w A env s b (IsI j)) : GV P w A env s (.BinOp a .Sub b pos) (IsI (i - j)) := fun E s1 k => by
  refine wpAny_BinOp (wpAny_mono (ha E s1 k) (fun y s2 ⟨⟨t, e⟩, k2⟩ => wpAny_mono (hb E s2 k2) (fun z s3 ⟨⟨u, e'⟩, k3⟩ => ?_) fun _ _ h => h) fun _ _ h => h)
  subst e
  subst e'
  exact sub_int ⟨⟨_, rfl⟩, keepsK k3 _⟩
theorem gv_add {i j : Int} (ha : GV P w A env s a (IsI i)) (hb : GV P w A env s b (IsI j)) : GV P w A env s (.BinOp a .Add b pos) (IsI (i + j)) := fun E s1 k => by
  refine wpAny_BinOp (wpAny_mono (ha E s1 k) (fun y s2 ⟨⟨t, e⟩, k2⟩ => wpAny_mono (hb E s2 k2) (fun z s3 ⟨⟨u, e'⟩, k3⟩ => ?_) fun _ _ h => h) fun _ _ h => h)
  subst e
  subst e'
  exact add_int ⟨⟨_, rfl⟩, keepsK k3 _⟩
/-- the item of a tuple -/
theorem gv_ix {t : Addr} {xs : List V} {its : List Value} {i : Int} {v : V} {R : Value → Prop} (ha : GV P w A env s a (· = .ref t)) (hb : GV P w A env s b (IsI i)) (ht : IsTup s.heap t its.toArray) (r : Vals xs its) (hz : xs.length ≤ sizeLine)
    (he : atI xs i = some v) (hr : ∀ u, RelV v u → R u) (hs : PlainIx b) : GV P w A env s (.Subscript a b pos) R := fun E s1 k => by
  refine Subscript_ (wpAny_mono (ha E s1 k) (fun y s2 ⟨e, k2⟩ => wpAny_mono (hb E s2 k2) (fun z s3 ⟨⟨u, e'⟩, k3⟩ => ?_) fun _ _ h => h) fun _ _ h => h)
  subst e
  subst e'
  obtain ⟨j, h1, h2, h3, h4, h5⟩ := atI_get he
  obtain ⟨w', ew, rw'⟩ := r.get h2
  have hl := r.length
  have hn := line63
  have ht3 := ht.keeps (keepsH k3)
  exact subscriptTail_builtinR (x := w') ht3.typeIs slot_tuple_getitem.lookup
    (getItem_tuple (j := j) (Q := fun r' s' => r' = w' ∧ (R r' ∧ PySem.Keeps s s')) ht3 (by omega) (by omega) (by rw [List.size_toArray, ← hl]; exact h1) (by simpa using ew) ⟨rfl, hr _ rw', k3⟩) (hs _ _)
/-- no test -/
theorem gt_nil {i : Bool} (hi : i = true) : ∀ E : Value → Shared → Prop, wpAny (model P w) A (forIn ([] : List Expr) true fun c r => if r = true then do let ok ← isTrue c env (eval c env); pure (ForInStep.yield ok) else pure (ForInStep.yield r)) (fun ok s3 => ok = i ∧ PySem.Keeps s s3) E s := fun E => by
  subst hi
  exact wpAny_pure ⟨rfl, GxR.keeps_refl _⟩
/-- one test: a != b -/
theorem gt_ne {i j : Int} (ha : GV P w A env s a (IsI i)) (hb : GV P w A env s b (IsI j)) (hm : behindInMarks .NotEq b = false := by with_unfolding_all rfl) : ∀ E : Value → Shared → Prop, wpAny (model P w) A (forIn [Expr.Compare a [.NotEq] [b] pos] true fun c r => if r = true then do let ok ← isTrue c env (eval c env); pure (ForInStep.yield ok) else pure (ForInStep.yield r)) (fun ok s3 => ok = (i != j) ∧ PySem.Keeps s s3) E s := fun E => by
  rw [List.forIn_cons]
  simp only [if_true, List.forIn_nil]
  refine wpAny_bind (wpAny_bind (wpAny_isTrue_Compare1 (wpAny_mono (ha E s (GxR.keeps_refl _)) (fun y s2 ⟨⟨t, e⟩, k2⟩ => wpAny_mono (hb E s2 k2) (fun z s3 ⟨⟨u, e'⟩, k3⟩ => ?_) fun _ _ h => h) fun _ _ h => h) hm))
  subst e
  subst e'
  exact ne_int (wpAny_truthy_bool (wpAny_pure (wpAny_pure ⟨rfl, k3⟩)))
end
/-- a captured name, where the generator expression starts -/
theorem Inv.freeAt {X : Cx} {pins : List (Addr × Obj)} {σ : L2.St} {H : Hp} {s : Shared} {i : Nat} {x : Str} {v : V} (I : Inv X pins σ H s) (hN : X.N[i]? = some x) (e : σ[i]? = some (some v)) (hc : X.env.scope.names.lookup x = some .cell) :
    ∃ u c, RelV v u ∧ X.env.cells.lookup x = some c ∧ s.heap.IsCell c (some u) := by
  obtain ⟨m, hn, hl⟩ := I.loc
  obtain ⟨u, r, l⟩ := hl i x v hN e (Or.inr (Or.inl hc))
  rcases l with ⟨hk, _⟩ | ⟨_, c, hc', hcell⟩
  · have hk' : X.env.scope.names.lookup x = some .local := hk
    rw [hc] at hk'
    cases hk'
  · exact ⟨u, c, r, hc', hcell⟩
theorem clo_at {cells : List (Str × Addr)} {x : Str} {c : Addr} (hc : cells.lookup x = some c) : ∀ (names : List (Str × NameKind)) (acc : List (Str × Addr)), ((x, NameKind.free) ∈ names ∨ acc.lookup x = some c) → (cloFrom cells names acc).lookup x = some c
  | [], _, h => h.elim (fun z => absurd z List.not_mem_nil) id
  | (n, k) :: r, acc, h => by
    unfold cloFrom
    by_cases hk : k = .free
    · rw [if_pos (by rw [hk]; rfl)]
      refine clo_at hc r _ ?_
      by_cases nx : x = n
      · subst nx
        refine Or.inr ?_
        rw [List.lookup_cons, hc]
        simp
      · rcases h with h | h
        · rcases List.mem_cons.mp h with z | z
          · exact absurd (congrArg Prod.fst z) nx
          · exact Or.inl z
        · refine Or.inr ?_
          rw [List.lookup_cons]
          have : (x == n) = false := beq_eq_false_iff_ne.mpr nx
          rw [this]
          exact h
    · rw [if_neg (by simpa using hk)]
      refine clo_at hc r acc ?_
      rcases h with h | h
      · rcases List.mem_cons.mp h with z | z
        · exact absurd (congrArg Prod.snd z).symm hk
        · exact Or.inl z
      · exact Or.inr h
theorem gen_free {sc sc' : Scope} {n : Nat} (h : (sc'.names.all fun y => y.2 != NameKind.free || sc.names.lookup y.1 == some NameKind.cell) = true) : ∀ y ∈ sc'.names, y.2 = .free → ∃ c, (cellsFrom n sc.names []).lookup y.1 = some c := fun y hy hf => by
  have q := List.all_eq_true.mp h y hy
  rw [hf] at q
  refine cell_has ?_
  simpa using q
/-- a def whose code object is known -/
theorem Fun.okC {P : Program} {w : World} {K : PySem.W.Frag} {mg : Str → Option Value} {base : Heap} {x qual : Str} {st : Stmt} {f c : Addr} {fd : FuncData} {N ps : List Str} {k : Nat} {sp : Sp} (F : Fun K x qual st f fd) (hc : fd.code = .ref c) (S : FnScope N ps (defScope st)) (len : ∀ vs H Q E, sp vs H Q E → vs.length = ps.length)
    (hbody : ∀ (A : Around) (outer : List Env) (s : Shared) (H : Hp) (vs : List V) (Q : VK) (E : XK), Room k (A.deeper (envOfC qual (defScope st) s.heap.objs.size f (.ref c))) → sp vs H Q E →
      ∃ t, PSs (cxOf CX0 P w K mg base N qual (defScope st) f (.ref c) A outer s H E).nox (defBody st) t ∧ t { nx := fun _ H' => Q .non H', rt := Q } (start N vs) H) : FnOk P w K mg base CX0 (k + 1) f fd ps sp := by
  obtain ⟨oc, od, kV, doc, pm, an, cdv, ct, osl, rfl, lk, hcd⟩ := F.ex
  have hc' : cdv = .ref c := hc
  subst hc'
  refine fn_of lk hcd S len fun A outer s H vs Q E hr hsp => ?_
  obtain ⟨t, h, q⟩ := hbody A outer s H vs Q E hr hsp
  exact ⟨t, h.nox, q⟩
/-! ### the tables of the text's code objects -/
def TabField (o : Obj) (P : Addr) : Prop := ∃ vs, o.data = .fields vs ∧ vs[11]? = some (.ref P)
theorem tab_mk {K : PySem.W.Frag} {h : Heap} {mg : Str → Option Value} {nm : Str} {f c P : Addr} {o oc : Obj} {fd : FuncData} (X : K.In h) (hm : mg nm = some (.ref f)) (l : K.lookup f = some o) (hd : o.data = .func fd) (hc : fd.code = .ref c)
    (kk : K.lookup c = some oc) (vv : TabField oc P) (nn : K.lookup P = none) (ck : CodeKnown mg h nm) :
    h.get? P = some { cls := .none, data := .fields #[] } ∧ K.lookup P = none ∧ PySem.W.CodeHd h c P ∧ h.IsCode c P #[] ∧ h.TableAt c P #[] := by
  obtain ⟨a, o', fd', c', P', m1, m2, m3, m4, m5, m6⟩ := ck
  rw [hm] at m1
  cases m1
  rw [X _ _ l] at m2
  cases m2
  rw [hd] at m3
  cases m3
  rw [hc] at m4
  cases m4
  obtain ⟨vs, v1, v2⟩ := vv
  have e : P' = P := by
    obtain ⟨⟨o2, vs2, t1, _, t3, t4⟩, _⟩ := m6
    rw [X _ _ kk] at t1
    cases t1
    rw [v1] at t3
    cases t3
    rw [v2] at t4
    cases t4
    rfl
  subst e
  exact ⟨m6.2, nn, PySem.W.CodeHd.of m5 m6, m5, m6⟩
/-! ### lists or tuples; zip of tuples -/
section
variable {X : Cx}
theorem ixSK (K : PySem.W.Frag) (h : X.K = K) : IxR X (rIx K) := h ▸ ix_seq
end
def SqA (K : PySem.W.Frag) (H : Hp) (a : Addr) (xs : List V) : Prop := SqL K H a xs ∨ SqT K H a xs
theorem SqA.same {K : PySem.W.Frag} {H J : Hp} {a : Addr} {xs : List V} (s : Same H J) (h : SqA K H a xs) : SqA K J a xs := h.elim (fun z => .inl (s.seq z)) fun z => .inr (sameT s z)
theorem walk_zipT {K : PySem.W.Frag} {a b : Addr} {xs ys : List V} {n : Nat} (hn : n = min xs.length ys.length) : Walk (RZ.ItzT K a b) n (fun H => SqT K H a xs ∧ SqT K H b ys) (YPair (fun i => xs[i]?) (fun i => ys[i]?)) := by
  refine ⟨fun i H hi q => ⟨xs, ys, xs[i], ys[i], q.1, q.2, List.getElem?_eq_getElem (by omega), List.getElem?_eq_getElem (by omega)⟩, fun H q => ⟨xs, ys, q.1, q.2, by omega⟩, fun i H v H' hi q y => ?_⟩
  obtain ⟨T, x, y', e, hT, eH, f, g⟩ := y
  exact ⟨T, x, y', e, hT, eH, f _ q.1, g _ q.2⟩
/-- two names, in a comprehension -/
theorem pg_pairK (K : PySem.W.Frag) {X : Cx} {i j k : Nat} {x y : Str} {p q pos : Pos} (hK : X.K = K) (hc : X.calm = true) (hN : X.N.Nodup) (hi : X.N[i]? = some x) (hx : Loc X.env.scope x) (hj : X.N[j]? = some y) (hy : Loc X.env.scope y)
    (hf : X.fn x = true ∨ X.env.scope.names.lookup x = some .local := by first | exact .inl rfl | exact .inr rfl) (hf' : X.fn y = true ∨ X.env.scope.names.lookup y = some .local := by first | exact .inl rfl | exact .inr rfl) :
    PG X (.Tuple [.Name x p, .Name y q] k pos) (gTup K 2 (gCons (gName i) (gCons (gName j) gNil))) := by
  subst hK
  exact pg_tup hc (pgs_cons (pg_name hN hi hx hf) (pgs_cons (pg_name hN hj hy hf') pgs_nil))
/-! ### (x,) * k, long -/
def rRepOne (K : PySem.W.Frag) : R2 := fun x y H Q => ∃ (l : Addr) (k : Int) (v : V), x = .ref l ∧ y = .int k ∧ SqT K H l [v] ∧ 2 ≤ k ∧ k ≤ 9000 ∧ ∀ p, H p = none → Q (.ref p) (upd H p (.tup (List.replicate k.toNat v)))
theorem one_rep (u : Value) (m : Nat) : (List.foldl (fun a b => a ++ b) #[] (List.replicate m #[u])) = (List.replicate m u).toArray := by
  have e := size_rep [u] m
  rw [List.flatten_replicate_singleton] at e
  exact e
theorem op_repOne {X : Cx} : OpR X (binaryOp .Mult) (rRepOne X.K) := by
  rintro pins s σ H _ _ _ _ Q I rx ry ⟨l, k, v, rfl, rfl, hT, lo, hi, q⟩
  cases rx
  obtain ⟨tk, rfl⟩ := ry
  obtain ⟨its, r, ⟨⟨cl, dd, dat, sl⟩, ho, rfl, n, rfl⟩, _⟩ := I.tuple hT
  cases r with
  | cons ru rn =>
  rename_i u us
  cases rn
  have fits : (List.replicate k.toNat u).toArray.size ≤ sizeLine := by
    rw [List.size_toArray, List.length_replicate]
    exact Nat.le_trans (by omega : k.toNat ≤ 9000) (by decide)
  have sz1 : (([u].toArray.size : Nat) : Int) * k = k := Int.one_mul k
  have far : (decide (k < -(2 ^ 63)) || decide (k ≥ 2 ^ 63)) = false := by
    rw [Bool.or_eq_false_iff]
    exact ⟨decide_eq_false (by omega), decide_eq_false (by omega)⟩
  have few : Builtin.Tuple.tupleTooMany (([u].toArray.size : Nat) * k) = false := by
    rw [sz1]
    show decide _ = false
    refine decide_eq_false ?_
    have := sizeLine_eq
    omega
  have many : (([u].toArray.isEmpty || k == 1) = false) ∧ ((decide (k ≤ 0) || [u].toArray.isEmpty) = false) := by
    refine ⟨?_, ?_⟩
    · show (false || k == 1) = false
      rw [Bool.false_or]
      exact beq_eq_false_iff_ne.mpr (by omega)
    · show (decide (k ≤ 0) || false) = false
      rw [Bool.or_false]
      exact decide_eq_false (by omega)
  have W := tuple_mulW l [u].toArray n dd sl k tk far many.1 many.2 (by rw [sz1]; omega) few (by rw [show [u].toArray = #[u] from rfl, one_rep]; exact fits)
  have isT : s.TypeIs (.ref l) "tuple" := ⟨_, ho, rfl⟩
  refine wpAny_binaryOp_repeat_ref (T := "tuple") (U := "int") (by decide) isT (fun z => typeIs_int z k tk) noFill_tuple_mul F.fills_int_mul F.slot_int_rmul repeat_tuple F.slot_int_index.lookup ?_
  refine call_meets F.slot_int_rmul (typeIs_int s k tk) F.entry_int_rmul (F.args_int_rmul_2 _ _) (int_rmul_tuple k tk l [u].toArray n dd sl) ⟨ho, rfl, isT, ?_⟩
  refine call_meets F.slot_tuple_mul isT F.entry_tuple_mul (F.args_tuple_mul_2 _ _) W ⟨ho, ?_⟩
  rw [show [u].toArray = #[u] from rfl, one_rep]
  have vals : Vals (List.replicate k.toNat v) (List.replicate k.toNat u) := by
    generalize k.toNat = m
    induction m with
    | zero => exact .nil
    | succ m ih => exact .cons ru ih
  refine ⟨.ref s.heap.objs.size, _, I.laid (t' := s.toks) (o := .tup (List.replicate k.toNat v)) (fun b o e => Heap.get?_push_of_some _ e) (Nat.le_refl _) ⟨?_, _, vals, _, Heap.get?_push_size _ rfl, rfl, _, rfl⟩, rfl, q _ (I.hok.fresh (Nat.le_refl _))⟩
  rw [List.length_replicate]
  exact Nat.le_trans (by omega : k.toNat ≤ 9000) (by decide)
theorem nil_tup (ds : List PyData) : PyData.eqv (.tuple ds) (.tuple []) = ds.isEmpty := by
  cases ds <;> simp [PyData.eqv, PyData.eqvAll]
/-! ### set(list of numbers), as a set that can be sorted; sorted(set(..)) -/
/-- the new, empty set -/
abbrev noneYet (w : World) : Obj := { cls := .type "set", dict := none, data := .set #[] 0 (.fresh 0 0 (!w.params.followText "set-order")) }
section
variable {P : Program} {w : World} {A : Around} {E : Value → Shared → Prop} {s : Shared}
theorem set_of_list {src : Addr} {vals : Array Value} (ns : List Int) {Q : Value → Shared → Prop} (calm : A.handled = none) (isL : s.heap.IsList src vals) (nums : IntsAre vals.toList ns) (few : ns.length + 1 < scanBound)
    (fin : ∀ (g : Heap) (tk m : Nat), SetR w g s.heap.objs.size (fun j => decide (j ∈ ns)) m → m ≤ ns.length → (∀ b o, s.heap.get? b = some o → g.get? b = some o) → Q (.ref s.heap.objs.size) { s with heap := g, toks := tk }) :
    wpAny (model P w) A (call (.type "set") [.ref src]) Q E s := by
  have many : vals.size = ns.length := (Array.length_toList (xs := vals)).symm.trans nums.length
  obtain ⟨cc, cl, ho⟩ := F.called_set.mro
  have ⟨m1, m2, m3, m4⟩ := And.intro F.called_set.made (And.intro F.called_set.sub (And.intro F.called_set.notType F.called_set.canCreate))
  have m5 := F.typeCall_set_1 (Value.ref src)
  refine wpAny_call (codeAny_of_tree (show wpAny _ _ (callAny (.type "set") _) _ _ _ from ?_))
  refine wpAny_pure (And.intro (Code.quiet_builtin _ (by decide +kernel)) (codeAny_builtin F.entry_type_call ?_))
  rw [Around.under_plain (weight_type_call_type "set" [Value.ref src] []) rfl]
  repeat (any_goals (first | assumption | wp_step))
  refine codeAny_mono (code_set_led1 (Value.ref src) (E := E) (Q₁ := fun u t => u = .ref s.heap.objs.size ∧ t = { s with heap := s.heap.push (noneYet w) }) (And.intro rfl rfl)) fun r1 t1 z1 => ?_
  cases r1 with
  | error _ => exact z1
  | ok f1 =>
  cases f1 with
  | next => exact z1.elim
  | brk => exact z1.elim
  | cont => exact z1.elim
  | ret u =>
  obtain ⟨rfl, rfl⟩ := z1
  have at0 : (s.heap.push (noneYet w)).get? s.heap.objs.size = some (noneYet w) := Heap.get?_push_size _ rfl
  have ty0 : Shared.TypeIs { s with heap := s.heap.push (noneYet w) } (.ref s.heap.objs.size) "set" := ⟨_, at0, rfl⟩
  have n1 := F.called_set.init.lookup
  have n2 := F.called_set.init.bind (Value.ref s.heap.objs.size)
  repeat (any_goals (first | assumption | wp_step))
  refine codeAny_mono (codeAny_call_builtin (R := wants (fun r t => r = .none ∧ ∃ (g : Heap) (tk m : Nat), t = { s with heap := g, toks := tk } ∧ SetR w g s.heap.objs.size (fun j => decide (j ∈ ns)) m ∧ m ≤ ns.length ∧ (∀ b o, s.heap.get? b = some o → g.get? b = some o)) E)
    F.called_set.init.plain F.entry_set_init (check_set_init_1 ty0 ?_)) fun r2 t2 z2 => ?_
  · obtain ⟨⟨lc, ld, lx, ls⟩, at1, k1, len, k2⟩ := isL
    simp only at k1 k2
    subst k1 k2
    have at2 : (s.heap.push (noneYet w)).get? src = some { cls := .type "list", dict := ld, data := .seq vals len, slots := ls } := Heap.get?_push_of_some _ at1
    have o1 := F.sub_list_set
    have o2 := F.sub_list_frozenset
    have o3 : (Value.type "list" == Value.type "dict") = false := by decide
    have isL2 : (s.heap.push (noneYet w)).IsList src vals := ⟨_, at2, rfl, len, rfl⟩
    unfold Builtin.«set.__init__» noKeywords Builtin.Frozenset.updateFrom
    generalize keep : pyIter = PI
    wp_walk
    subst keep
    refine wpAny_pyIter_list isL2 (wpAny_bind (wpAny_runValue ?_))
    have lt := Heap.lt_size at1
    have sz : (s.heap.push (noneYet w)).objs.size = s.heap.objs.size + 1 := Heap.size_push ..
    have calm3 : A.in1.in1.in1.handled = none := by simp only [Around.in1, calm]
    have apart : src ≠ (s.heap.push (noneYet w)).objs.size := fun z => by
      rw [z, sz] at lt
      exact absurd lt (Nat.not_lt_of_le (Nat.le_succ _))
    have out : s.heap.objs.size ∉ [(s.heap.push (noneYet w)).objs.size, src] := fun z => by
      rcases List.mem_cons.mp z with z | z
      · rw [sz] at z
        exact absurd z (Nat.ne_of_lt (Nat.lt_succ_self _))
      · rw [List.mem_singleton.mp z] at lt
        exact Nat.lt_irrefl _ lt
    have each : ∀ (i : Nat) (v : Value), vals[i]? = some v → ∃ k t, ns[i]? = some k ∧ v = .int k t := fun i v hv => by
      have li : i < ns.length := many ▸ (Array.getElem?_eq_some_iff.mp hv).1
      obtain ⟨t, e⟩ := PyProof.Rows.IntsAre.int_at nums i v (by rw [Array.getElem?_toList]; exact hv)
      exact ⟨ns[i], t, List.getElem?_eq_getElem li, by rw [e, List.getD_eq_getElem?_getD, List.getElem?_eq_getElem li]; rfl⟩
    refine set_update_ints (Walks.list calm3 _ src apart vals).toS s.heap.objs.size out ns many few each (vals.size - 0) 0 _ rfl (Nat.zero_le _) ⟨⟨_, Heap.get?_push_size _ rfl, rfl, rfl⟩, isL2.push _⟩
      ⟨0, Nat.le_refl 0, setR_new_at (Heap.get?_push_of_some _ at0)⟩ fun t m mv lm Rt => ?_
    obtain ⟨g, gg, dd, tk, os⟩ := t
    obtain rfl : gg = s.gens := mv.gens
    obtain rfl : dd = s.drawn := mv.drawn
    obtain rfl : os = s.os := mv.os
    show wpAny _ _ _ _ _ _
    refine wpAny_pure (show wpAny _ _ (ret Value.none) _ _ _ from wpAny_pure ⟨rfl, g, tk, m, rfl, Rt, many ▸ lm, fun b o e => ?_⟩)
    have lb := Heap.lt_size e
    refine mv.heap b o (fun z => ?_) (Heap.get?_push_of_some _ (Heap.get?_push_of_some _ e))
    rcases List.mem_cons.mp z with z | z
    · rw [z] at lb
      exact Nat.lt_irrefl _ lb
    · rw [List.mem_singleton.mp z, sz] at lb
      exact absurd lb (Nat.not_lt_of_le (Nat.le_succ _))
  · cases r2 with
    | error _ => exact z2
    | ok f2 =>
    cases f2 with
    | next => exact z2.elim
    | brk => exact z2.elim
    | cont => exact z2.elim
    | ret _ =>
    obtain ⟨rfl, g, tk, m, rfl, Rt, lm, old⟩ := z2
    repeat (any_goals (first | assumption | wp_step))
    exact fin g tk m Rt lm old
end
section
variable {X : Cx}
def rSetN (K : PySem.W.Frag) (w : World) : List V → Hp → VK → Prop := fun xs H Q => ∃ (l : Addr) (ns : List Int), xs = [V.ref l] ∧ SqA K H l (ns.map V.int) ∧ ns.length < 64 ∧ ∀ (p : Addr) (m : Nat), m ≤ ns.length → H p = none → Q (.ref p) (upd H p (SetO w p (fun j => decide (j ∈ ns)) m))
theorem cr_setN (hc : X.calm = true) : CallR X (.type "set") (rSetN X.K X.w) := by
  intro pins s σ H xs us Q I r h
  obtain ⟨l, ns, rfl, hq, h64, q⟩ := h
  rw [Vals.ref1 r]
  have few : ns.length + 1 < scanBound := Nat.lt_trans (by omega : ns.length + 1 < 65) (by decide)
  rcases hq with hq | hq
  · obtain ⟨its, rv, pl, _⟩ := I.list hq
    refine set_of_list ns (I.ok.hd hc) pl.isList (RZ.intsAre_vals rv) few fun g tk m R lm old => ?_
    exact ⟨.ref _, _, I.laid (t' := tk) old (Nat.le_refl _) (setO_new R), rfl, q _ m lm (I.hok.fresh (Nat.le_refl _))⟩
  · obtain ⟨its, rv, pl, _⟩ := I.tuple hq
    refine call_set_tupI ns (I.ok.hd hc) (show s.heap.IsTuple l its.toArray from pl) (RZ.intsAre_vals rv) few fun g tk m R lm old => ?_
    exact ⟨.ref _, _, I.laid (t' := tk) old (Nat.le_refl _) (setO_new R), rfl, q _ m lm (I.hok.fresh (Nat.le_refl _))⟩
end
/-- strictly rising lists of the same numbers are the same -/
theorem rising_eq : ∀ {a b : List Int}, a.Pairwise (· < ·) → b.Pairwise (· < ·) → (∀ k, k ∈ a ↔ k ∈ b) → a = b
  | [], [], _, _, _ => rfl
  | [], y :: b, _, _, h => absurd ((h y).mpr List.mem_cons_self) List.not_mem_nil
  | x :: a, [], _, _, h => absurd ((h x).mp List.mem_cons_self) List.not_mem_nil
  | x :: a, y :: b, ha, hb, h => by
    obtain ⟨ha1, ha2⟩ := List.pairwise_cons.mp ha
    obtain ⟨hb1, hb2⟩ := List.pairwise_cons.mp hb
    have e : x = y := by
      rcases List.mem_cons.mp ((h x).mp List.mem_cons_self) with z | z
      · exact z
      · rcases List.mem_cons.mp ((h y).mpr List.mem_cons_self) with u | u
        · exact u.symm
        · have := hb1 x z
          have := ha1 y u
          omega
    subst e
    have t : a = b := rising_eq ha2 hb2 fun k => by
      constructor
      · intro z
        rcases List.mem_cons.mp ((h k).mp (List.mem_cons_of_mem _ z)) with u | u
        · have := ha1 k z
          omega
        · exact u
      · intro z
        rcases List.mem_cons.mp ((h k).mpr (List.mem_cons_of_mem _ z)) with u | u
        · have := hb1 k z
          omega
        · exact u
    rw [t]
/-- out is the numbers of ns in order, each once -/
def Sorted (out ns : List Int) : Prop := out.Pairwise (· < ·) ∧ ∀ k, k ∈ out ↔ k ∈ ns
theorem Sorted.eq {a b ns ms : List Int} (ha : Sorted a ns) (hb : Sorted b ms) (h : ∀ k, k ∈ ns ↔ k ∈ ms) : a = b := rising_eq ha.1 hb.1 fun k => by rw [ha.2, h, hb.2]
/-! ### t.index(k), t a tuple of numbers -/
def rIdxT (K : PySem.W.Frag) : V → List V → Hp → VK → Prop := fun x xs H Q => ∃ (p : Addr) (ns : List Int) (k : Int) (j : Nat), x = .ref p ∧ xs = [.int k] ∧ SqT K H p (ns.map V.int) ∧ ns[j]? = some k ∧ (∀ m, m < j → ns[m]? ≠ some k) ∧ Q (.int (j : Nat)) H
theorem mt_idxT {X : Cx} : MtR X "tuple.index" (rIdxT X.K) := by
  rintro pins s σ H _ _ v us Q I rx rs ⟨p, ns, k, j, rfl, rfl, hq, hk, first, q⟩
  cases rx
  obtain ⟨u, rfl, t, rfl⟩ := vals1 rs
  obtain ⟨its, r, ⟨⟨cl, dd, dat, sl⟩, ho, rfl, n, rfl⟩, _⟩ := I.tuple hq
  have len : its.toArray.size = ns.length := by
    have := r.length
    rw [List.length_map] at this
    rw [List.size_toArray]
    exact this.symm
  have place : ∀ (m : Nat) (hm : m < its.toArray.size), ∃ y t', ns[m]? = some y ∧ its.toArray[m] = Value.int y t' := by
    intro m hm
    have lm : m < ns.length := len ▸ hm
    obtain ⟨v', hv, t', rfl⟩ := r.get (i := m) (x := .int ns[m]) (by rw [List.getElem?_map, List.getElem?_eq_getElem lm]; rfl)
    exact ⟨ns[m], t', List.getElem?_eq_getElem lm, by simpa using (List.getElem?_eq_some_iff.mp hv).2⟩
  have lj : j < its.toArray.size := len ▸ (List.getElem?_eq_some_iff.mp hk).1
  have W := TI.tuple_indexAt p its.toArray n dd sl (.int k t) (eqU (.int k)) j lj (by
    obtain ⟨y, t', h1, h2⟩ := place j lj
    rw [h2, show y = k from Option.some.inj (h1.symm.trans hk)]
    exact beq_self_eq_true k) (by
    intro m hm lt
    obtain ⟨y, t', h1, h2⟩ := place m hm
    rw [h2]
    exact beq_eq_false_iff_ne.mpr fun e => first m lt (by rw [h1, e]))
  refine call_meets PySem.F.slot_tuple_index ⟨_, ho, rfl⟩ PySem.F.entry_tuple_index (PySem.F.args_tuple_index_2 _ _) W ⟨ho, fun w' hw => ?_, .int (j : Nat), H, I.tok _, ⟨_, rfl⟩, q⟩
  refine mem_eqAt (x := .int k) ⟨t, rfl⟩ rfl r ?_ w' (by simpa using hw)
  rw [List.all_map]
  exact List.all_eq_true.mpr fun _ _ => rfl
/-! ### tuples made by tuple(list), known to the object; their methods -/
def FrzT (H : Hp) (a : Addr) (xs : List V) : Prop := ∃ o : Obj, o.cls = .type "tuple" ∧ o.dict = none ∧ H a = some (.frz o (.tup xs))
theorem FrzT.sq {K : PySem.W.Frag} {H : Hp} {a : Addr} {xs : List V} (h : FrzT H a xs) : SqT K H a xs := let ⟨o, _, _, e⟩ := h; Or.inl (Or.inr ⟨o, e⟩)
section
variable {X : Cx}
def rTupF (K : PySem.W.Frag) : List V → Hp → VK → Prop := fun xs H Q => ∃ (p : Addr) (ys : List V), xs = [.ref p] ∧ SqL K H p ys ∧ ∀ (l : Addr) (o : Obj), o.cls = .type "tuple" → o.dict = none → H l = none → Q (.ref l) (upd H l (.frz o (.tup ys)))
theorem cr_tupF : CallR X (.type "tuple") (rTupF X.K) := by
  rintro pins s σ H xs us Q I r ⟨p, ys, rfl, hq, q⟩
  rw [Vals.ref1 r]
  obtain ⟨its, rv, pl, hz⟩ := I.list hq
  have few := rv.length
  refine call_tuple_list pl.isList (fun g old => ?_) (by rw [List.size_toArray]; omega)
  have I1 : Inv X pins σ H { s with heap := g } := I.kept (t' := s.toks) old
  let o : Obj := { cls := .type "tuple", data := .seq its.toArray }
  have ok : ObjOk X.prog X.w (upd H g.objs.size (.frz o (.tup ys))) (g.push o) g.objs.size (.frz o (.tup ys)) := ⟨Heap.get?_push_size _ rfl, hz, its, rv, IsTup.new _ _⟩
  exact ⟨.ref g.objs.size, _, I1.laid (t' := s.toks) (fun b u e => Heap.get?_push_of_some _ e) (Nat.le_refl _) ok, rfl, q _ o rfl rfl (I1.hok.fresh (Nat.le_refl _))⟩
def tBMT (r : V → List V → Hp → VK → Prop) (to : TE) (t : TA) : TE := fun σ H Q => to σ H fun x H1 => (∃ (a : Addr) (xs : List V), x = .ref a ∧ FrzT H1 a xs) ∧ t σ H1 fun vs H2 => r x vs H2 Q
variable {o e : Expr} {es : List Expr} {to : TE} {t : TA} {name id : String} {apos cpos : Pos} {r : V → List V → Hp → VK → Prop}
theorem pe_bmT (slot : Slot "tuple" name id) (des : typeOf (.builtin id) = pure (.type "method_descriptor")) (hm : MtR X id r) (ho : PE X o to) (ha : PA X (e :: es) t)
    (plainO : attributeBase o name X.env (eval o X.env) = eval o X.env := by rfl)
    (form : ((backTo cpos (starEach (e :: es) X.env)).all (fun x => !x.1) && (backToKw cpos (keywordEach [] X.env)).all (fun x => x.1.isSome) && decide ((e :: es).length + ([] : List Keyword).length + (if ([] : List Keyword).isEmpty then 0 else 1) < 30)) = true := by rfl)
    (row : (apos.endLine == cpos.line) = true := by rfl) (trees : starEach (e :: es) X.env = (false, eval e X.env) :: starEach es X.env := by rfl)
    (noStar : (backTo cpos (starEach es X.env)).any (·.1) = false := by rfl) : PE X (.Call (.Attribute o name apos) (e :: es) [] cpos) (tBMT r to t) := by
  refine ⟨fun pins s σ H Q I h => wpAny_Call_method_late plainO form row rfl (thn (ho.run pins s σ H _ I h) fun v s1 ⟨x, H1, I1, r1, ⟨a, xs, ex, o1, c1, d1, f1⟩, q1⟩ => ?_)⟩
  subst ex
  cases r1
  obtain ⟨got, _⟩ := I1.hok a _ f1
  refine ⟨"tuple", id, PySem.F.plainAttrs_tuple, slot, des, ⟨o1, got, c1⟩, fun b eb => ?_, ?_⟩
  · cases eb
    exact ⟨o1, got, d1⟩
  · have run := ha.run cpos pins s1 σ H1 _ I1 q1
    rw [trees] at run ⊢
    refine Calls.callWith_builtin ?_ (Calls.evalArgs_plain (thn run fun us s2 ⟨vs, H2, I2, r2, q2⟩ => hm pins s2 σ H2 (.ref a) vs (.ref a) us Q I2 rfl r2 q2))
    show (false || (backTo cpos (starEach es X.env)).any (·.1)) = false
    rw [noStar]
    rfl
end
def topAt (i : Nat) : Stmt := PySem.Challenge.pw_sentnext_k47_what_is_a_log.main.body.getD i (.Pass ⟨0, 0, 0, 0⟩)
abbrev s_whole : Stmt := topAt 1
abbrev s_tuple_of : Stmt := topAt 2
abbrev s_is_telling : Stmt := topAt 5
abbrev s_is_answer : Stmt := topAt 8
abbrev s_is_log : Stmt := topAt 9
abbrev s_deck : Stmt := topAt 11
abbrev s_draw : Stmt := topAt 12
abbrev s_one : Stmt := topAt 13
abbrev s_power : Stmt := topAt 14
abbrev s_house : Stmt := topAt 15
abbrev s_rest_kept : Stmt := topAt 16
abbrev s_course : Stmt := topAt 17
abbrev s_names : Stmt := topAt 18
abbrev s_odd : Stmt := topAt 19
abbrev s_bent : Stmt := topAt 20
abbrev s_log : Stmt := topAt 21
abbrev s_due : Stmt := topAt 22
abbrev s_law : Stmt := topAt 23
theorem sc_whole : FnScope ["value", "low", "high"] ["value", "low", "high"] (defScope s_whole) :=
  ⟨rfl, rfl, rfl, by decide +kernel, rfl, by decide +kernel, by decide +kernel⟩
theorem sc_tuple_of : FnScope ["value", "many"] ["value", "many"] (defScope s_tuple_of) :=
  ⟨rfl, rfl, rfl, by decide +kernel, rfl, by decide +kernel, by decide +kernel⟩
theorem sc_is_telling : FnScope ["house", "value", "part"] ["house", "value"] (defScope s_is_telling) :=
  ⟨rfl, rfl, rfl, by decide +kernel, rfl, by decide +kernel, by decide +kernel⟩
theorem sc_is_answer : FnScope ["house", "value", "server", "name"] ["house", "value"] (defScope s_is_answer) :=
  ⟨rfl, rfl, rfl, by decide +kernel, rfl, by decide +kernel, by decide +kernel⟩
theorem sc_is_log : FnScope ["house", "value", "pair"] ["house", "value"] (defScope s_is_log) :=
  ⟨rfl, rfl, rfl, by decide +kernel, rfl, by decide +kernel, by decide +kernel⟩
theorem sc_deck : FnScope ["_law_script"] ["_law_script"] (defScope s_deck) :=
  ⟨rfl, rfl, rfl, by decide +kernel, rfl, by decide +kernel, by decide +kernel⟩
theorem sc_draw : FnScope ["_law_deck_here", "_law_many", "_law_found", "_law_cell", "_law_mixed"] ["_law_deck_here", "_law_many"] (defScope s_draw) :=
  ⟨rfl, rfl, rfl, by decide +kernel, rfl, by decide +kernel, by decide +kernel⟩
theorem sc_one : FnScope ["_law_deck_here", "_law_items"] ["_law_deck_here", "_law_items"] (defScope s_one) :=
  ⟨rfl, rfl, rfl, by decide +kernel, rfl, by decide +kernel, by decide +kernel⟩
theorem sc_power : FnScope ["_law_servers", "_law_lag", "_law_found", "_law_k"] ["_law_servers", "_law_lag"] (defScope s_power) :=
  ⟨rfl, rfl, rfl, by decide +kernel, rfl, by decide +kernel, by decide +kernel⟩
theorem sc_house : FnScope ["_law_deck_here", "_law_room", "_law_servers", "_law_fits", "_law_lag"] ["_law_deck_here", "_law_room"] (defScope s_house) :=
  ⟨rfl, rfl, rfl, by decide +kernel, rfl, by decide +kernel, by decide +kernel⟩
theorem sc_rest_kept : FnScope ["_law_course_here", "_law_rest", "_law_some", "_law_moment", "_law_one_here", "_law_other"] ["_law_course_here", "_law_rest"] (defScope s_rest_kept) :=
  ⟨rfl, rfl, rfl, by decide +kernel, rfl, by decide +kernel, by decide +kernel⟩
theorem sc_course : FnScope ["_law_deck_here", "_law_house_here", "_law_many", "_law_found", "_law_often", "_law_k", "_law_head"] ["_law_deck_here", "_law_house_here", "_law_many"] (defScope s_course) :=
  ⟨rfl, rfl, rfl, by decide +kernel, rfl, by decide +kernel, by decide +kernel⟩
theorem sc_names : FnScope ["_law_house_here", "_law_course_here", "_law_moment", "_law_server", "_law_found", "_law_here"] ["_law_house_here", "_law_course_here", "_law_moment", "_law_server"] (defScope s_names) :=
  ⟨rfl, rfl, rfl, by decide +kernel, rfl, by decide +kernel, by decide +kernel⟩
theorem sc_odd : FnScope ["_law_deck_here", "_law_some"] ["_law_deck_here"] (defScope s_odd) :=
  ⟨rfl, rfl, rfl, by decide +kernel, rfl, by decide +kernel, by decide +kernel⟩
theorem sc_bent : FnScope ["_law_deck_here", "_law_thing", "_law_deep", "_law_at", "_law_sort"] ["_law_deck_here", "_law_thing", "_law_deep"] (defScope s_bent) :=
  ⟨rfl, rfl, rfl, by decide +kernel, rfl, by decide +kernel, by decide +kernel⟩
theorem sc_log : FnScope ["_law_deck_here", "_law_house_here", "_law_many", "_law_course_here", "_law_found", "_law_k", "_law_server", "_law_some"] ["_law_deck_here", "_law_house_here", "_law_many"] (defScope s_log) :=
  ⟨rfl, rfl, rfl, by decide +kernel, rfl, by decide +kernel, by decide +kernel⟩
theorem sc_due : FnScope ["_law_house_here", "_law_thing", "_law_pair", "_law_one_here"] ["_law_house_here", "_law_thing"] (defScope s_due) :=
  ⟨rfl, rfl, rfl, by decide +kernel, rfl, by decide +kernel, by decide +kernel⟩
theorem sc_law : FnScope ["_law_script", "_law_deck_here", "_law_turn", "_law_house_here", "_law_log_here", "_law_full", "_law_odd_here", "_law_at", "_law_some", "_law_thing", "_law_k", "_law_one_here", "_law_held"] ["_law_script"] (defScope s_law) :=
  ⟨rfl, rfl, rfl, by decide +kernel, rfl, by decide +kernel, by decide +kernel⟩
structure Txt (K : PySem.W.Frag) (mg : Str → Option Value) where
  a_whole : Addr
  d_whole : FuncData
  F_whole : Fun K "whole" "whole" s_whole a_whole d_whole
  g_whole : mg "whole" = some (.ref a_whole)
  b_whole : Binds K d_whole ["value", "low", "high"] []
  a_tuple_of : Addr
  d_tuple_of : FuncData
  F_tuple_of : Fun K "tuple_of" "tuple_of" s_tuple_of a_tuple_of d_tuple_of
  g_tuple_of : mg "tuple_of" = some (.ref a_tuple_of)
  b_tuple_of : Binds K d_tuple_of ["value", "many"] []
  a_is_telling : Addr
  d_is_telling : FuncData
  F_is_telling : Fun K "is_telling" "is_telling" s_is_telling a_is_telling d_is_telling
  g_is_telling : mg "is_telling" = some (.ref a_is_telling)
  b_is_telling : Binds K d_is_telling ["house", "value"] []
  a_is_answer : Addr
  d_is_answer : FuncData
  F_is_answer : Fun K "is_answer" "is_answer" s_is_answer a_is_answer d_is_answer
  g_is_answer : mg "is_answer" = some (.ref a_is_answer)
  b_is_answer : Binds K d_is_answer ["house", "value"] []
  a_is_log : Addr
  d_is_log : FuncData
  F_is_log : Fun K "is_log" "is_log" s_is_log a_is_log d_is_log
  g_is_log : mg "is_log" = some (.ref a_is_log)
  b_is_log : Binds K d_is_log ["house", "value"] []
  a_deck : Addr
  d_deck : FuncData
  F_deck : Fun K "_law_deck" "_law_deck" s_deck a_deck d_deck
  g_deck : mg "_law_deck" = some (.ref a_deck)
  b_deck : Binds K d_deck ["_law_script"] []
  a_draw : Addr
  d_draw : FuncData
  F_draw : Fun K "_law_draw" "_law_draw" s_draw a_draw d_draw
  g_draw : mg "_law_draw" = some (.ref a_draw)
  b_draw : Binds K d_draw ["_law_deck_here", "_law_many"] []
  a_one : Addr
  d_one : FuncData
  F_one : Fun K "_law_one" "_law_one" s_one a_one d_one
  g_one : mg "_law_one" = some (.ref a_one)
  b_one : Binds K d_one ["_law_deck_here", "_law_items"] []
  a_power : Addr
  d_power : FuncData
  F_power : Fun K "_law_power" "_law_power" s_power a_power d_power
  g_power : mg "_law_power" = some (.ref a_power)
  b_power : Binds K d_power ["_law_servers", "_law_lag"] []
  a_house : Addr
  d_house : FuncData
  F_house : Fun K "_law_house" "_law_house" s_house a_house d_house
  g_house : mg "_law_house" = some (.ref a_house)
  b_house : Binds K d_house ["_law_deck_here", "_law_room"] []
  a_rest_kept : Addr
  d_rest_kept : FuncData
  F_rest_kept : Fun K "_law_rest_kept" "_law_rest_kept" s_rest_kept a_rest_kept d_rest_kept
  g_rest_kept : mg "_law_rest_kept" = some (.ref a_rest_kept)
  b_rest_kept : Binds K d_rest_kept ["_law_course_here", "_law_rest"] []
  a_course : Addr
  d_course : FuncData
  F_course : Fun K "_law_course" "_law_course" s_course a_course d_course
  g_course : mg "_law_course" = some (.ref a_course)
  b_course : Binds K d_course ["_law_deck_here", "_law_house_here", "_law_many"] []
  a_names : Addr
  d_names : FuncData
  F_names : Fun K "_law_names" "_law_names" s_names a_names d_names
  g_names : mg "_law_names" = some (.ref a_names)
  b_names : Binds K d_names ["_law_house_here", "_law_course_here", "_law_moment", "_law_server"] []
  a_odd : Addr
  d_odd : FuncData
  F_odd : Fun K "_law_odd" "_law_odd" s_odd a_odd d_odd
  g_odd : mg "_law_odd" = some (.ref a_odd)
  b_odd : Binds K d_odd ["_law_deck_here"] []
  a_bent : Addr
  d_bent : FuncData
  F_bent : Fun K "_law_bent" "_law_bent" s_bent a_bent d_bent
  g_bent : mg "_law_bent" = some (.ref a_bent)
  b_bent : Binds K d_bent ["_law_deck_here", "_law_thing", "_law_deep"] []
  a_log : Addr
  d_log : FuncData
  F_log : Fun K "_law_log" "_law_log" s_log a_log d_log
  g_log : mg "_law_log" = some (.ref a_log)
  b_log : Binds K d_log ["_law_deck_here", "_law_house_here", "_law_many"] []
  a_due : Addr
  d_due : FuncData
  F_due : Fun K "_law_due" "_law_due" s_due a_due d_due
  g_due : mg "_law_due" = some (.ref a_due)
  b_due : Binds K d_due ["_law_house_here", "_law_thing"] []
  a_NONE_ASKED : Addr
  g_NONE_ASKED : mg "NONE_ASKED" = some (.ref a_NONE_ASKED)
  q_NONE_ASKED : SqT K (fun _ => none) a_NONE_ASKED [.int (-1), .int (-1)]
  t_MOST_PAIRS : Tok
  g_MOST_PAIRS : mg "MOST_PAIRS" = some (.int 30 t_MOST_PAIRS)
  m_abs : mg "abs" = none
  m_all : mg "all" = none
  m_bool : mg "bool" = none
  m_int : mg "int" = none
  m_isinstance : mg "isinstance" = none
  m_len : mg "len" = none
  m_list : mg "list" = none
  m_range : mg "range" = none
  m_repr : mg "repr" = none
  m_set : mg "set" = none
  m_sorted : mg "sorted" = none
  m_tuple : mg "tuple" = none
  m_zip : mg "zip" = none
/-! ### the deck of a script: a list of four, its cells a list of their own -/
/-- the deck at p, n numbers have been drawn -/
def Deck (K : PySem.W.Frag) (H : Hp) (p : Addr) (n : Nat) : Prop :=
  ∃ (l : Addr) (ns : List Int) (c r : Int), H p = some (.lst [.ref l, .int c, .int r, .int (n : Int)]) ∧ l ≠ p ∧ SqL K H l (ns.map V.int) ∧ ns.length ≤ 63 ∧ 0 ≤ c ∧ 0 ≤ r
theorem Deck.ne_new {K : PySem.W.Frag} {H : Hp} {p q : Addr} {n : Nat} (D : Deck K H p n) (h : H q = none) : q ≠ p := by
  obtain ⟨l, ns, c, r, hp, _⟩ := D
  exact (ne_of_none hp h).symm
theorem Deck.ne_tup {K : PySem.W.Frag} {H : Hp} {p t : Addr} {n : Nat} {xs : List V} (D : Deck K H p n) (h : H t = some (.tup xs)) : t ≠ p := by
  obtain ⟨l, ns, c, r, hp, _⟩ := D
  exact ne_of h hp (by intro z; cases z)
theorem Deck.put {K : PySem.W.Frag} {H : Hp} {p q : Addr} {n : Nat} {o : HO} (D : Deck K H p n) (h : H q = none) : Deck K (upd H q o) p n := by
  have nq := D.ne_new h
  obtain ⟨l, ns, c, r, hp, lp, hl, z⟩ := D
  exact ⟨l, ns, c, r, by rw [upd_ne nq.symm]; exact hp, lp, (Keep.new h).seq lp hl, z⟩
/-- an object that was new at a time when the deck stood is changed later -/
theorem Deck.write {K : PySem.W.Frag} {G H : Hp} {p q : Addr} {m n : Nat} {o : HO} (A : Deck K G p m) (h : G q = none) (k : Keep p G H) (D : Deck K H p n) : Deck K (upd H q o) p n := by
  have nq := A.ne_new h
  obtain ⟨l, ns, c, r, gp, lp, gl, g63, _⟩ := A
  obtain ⟨l', ns', c', r', hp, lp', hl, h63, hc, hr⟩ := D
  obtain ⟨z, hz⟩ := k.h l _ gp
  have e : l' = l := by
    rw [hp] at hz
    injection hz with hz
    injection hz with hz
    injection hz with hz _
    injection hz
  subst e
  have hp' : upd H q o p = some (.lst [.ref l', .int c', .int r', .int (n : Int)]) := by
    rw [upd_ne nq.symm]
    exact hp
  rcases gl with gl | gl
  · have lq : l' ≠ q := by
      rcases gl with gl | ⟨_, gl⟩
      · exact ne_of_none gl h
      · exact ne_of_none gl h
    refine ⟨l', ns', c', r', hp', lp, ?_, h63, hc, hr⟩
    rcases hl with (hl | ⟨u, hl⟩) | hl
    · exact Or.inl (Or.inl (by rw [upd_ne lq]; exact hl))
    · exact Or.inl (Or.inr ⟨u, by rw [upd_ne lq]; exact hl⟩)
    · exact Or.inr hl
  · exact ⟨l', ns, c', r', hp', lp, Or.inr gl, g63, hc, hr⟩
theorem ints_dp {K : PySem.W.Frag} {H : Hp} : ∀ ns : List Int, DpAll K H (ns.map V.int) (ns.map PyData.int)
  | [] => .nil
  | n :: ns => .cons (.int n) (ints_dp ns)
theorem ints_lay : ∀ ns : List Int, PyData.canLayAll0 (ns.map PyData.int) = true
  | [] => by simp only [List.map_nil, PyData.canLayAll0]
  | n :: ns => by simp only [List.map_cons, PyData.canLayAll0, PyData.canLay0, ints_lay ns, Bool.and_self]
theorem ints_deep : ∀ ns : List Int, PyData.depthAll (ns.map PyData.int) = 0
  | [] => by simp only [List.map_nil, PyData.depthAll]
  | n :: ns => by simp only [List.map_cons, PyData.depthAll, PyData.depth, ints_deep ns, Nat.max_self]
theorem ints_shaped (ns : List Int) : SeqAt.shaped (.list (ns.map PyData.int)) = true := by
  unfold SeqAt.shaped
  simp only [PyData.canLay0, PyData.depth, ints_lay, ints_deep, Bool.true_and, decide_eq_true_eq]
  decide
theorem ints_nil (ns : List Int) : PyData.eqv (.list (ns.map PyData.int)) (.list []) = ns.isEmpty := by
  cases ns <;> simp [PyData.eqv, PyData.eqvAll]
theorem int_at (ns : List Int) (i : Int) (h0 : 0 ≤ i) (h1 : i < (ns.length : Int)) : ∃ z, atI (ns.map V.int) i = some (.int z) := by
  obtain ⟨j, rfl⟩ : ∃ j : Nat, i = (j : Int) := ⟨i.toNat, (Int.toNat_of_nonneg h0).symm⟩
  have hj : j < ns.length := by omega
  refine ⟨ns[j], atI_nat ?_⟩
  rw [List.getElem?_map, List.getElem?_eq_getElem hj]
  rfl
theorem fmod_lo {a m : Int} (h : 0 < m) : 0 ≤ a.fmod m := Int.fmod_nonneg_of_pos _ h
theorem fmod_hi {a m : Int} (h : 0 < m) : a.fmod m < m := Int.fmod_lt_of_pos _ h
theorem fdiv_lo {a m : Int} (h : 0 ≤ a) (hm : 0 < m) : 0 ≤ a.fdiv m := by
  rw [Int.fdiv_eq_ediv_of_nonneg _ (Int.le_of_lt hm)]
  exact Int.ediv_nonneg h (Int.le_of_lt hm)
theorem rIx_of {K : PySem.W.Frag} {H : Hp} {p : Addr} {xs : List V} {i : Int} {v : V} {Q : VK} (h : SqA K H p xs) (he : atI xs i = some v) (q : Q v H) : rIx K (.ref p) (.int i) H Q := by
  rcases h with h | h
  · exact Or.inl ⟨p, xs, i, v, rfl, rfl, h, he, q⟩
  · exact Or.inr (Or.inl ⟨p, xs, i, v, rfl, rfl, h, he, q⟩)
def sp_draw (K : PySem.W.Frag) : Sp := fun vs H Q _ => ∃ (p : Addr) (m : Int) (n : Nat), vs = [.ref p, .int m] ∧ 0 < m ∧ m < 100000 ∧ Deck K H p n ∧ n < 1000000 ∧
  ∀ (r : Int) (J : Hp), 0 ≤ r → r < m → Deck K J p (n + 1) → Keep p H J → Q (.int r) J
def sp_one (K : PySem.W.Frag) : Sp := fun vs H Q _ => ∃ (p a : Addr) (xs : List V) (n : Nat), vs = [.ref p, .ref a] ∧ SqL K H a xs ∧ a ≠ p ∧ 0 < xs.length ∧ xs.length < 100000 ∧ Deck K H p n ∧ n < 1000000 ∧
  ∀ (i : Nat) (x : V) (J : Hp), xs[i]? = some x → Deck K J p (n + 1) → Keep p H J → Q x J
section
variable {P : Program} {w : World} {K : PySem.W.Frag} {mg : Str → Option Value} {base : Heap}
theorem ok_draw (T : Txt K mg) : FnOk P w K mg base CX0 1 T.a_draw T.d_draw ["_law_deck_here", "_law_many"] (sp_draw K) := by
  refine T.F_draw.ok sc_draw (fun vs H Q E h => ?_) (fun cdv A outer s H vs Q E hr h => ?_)
  · obtain ⟨p, m, n, rfl, _⟩ := h
    rfl
  · obtain ⟨p, m, n, rfl, m0, m1, ⟨l, ns, c, r, hp, lp, hl, h63, c0, r0⟩, hn, k⟩ := h
    have mne : m ≠ 0 := by omega
    have md : CDivN r m := ⟨mne, by omega⟩
    refine ⟨_, (pss_cons (ps_asg (pe_op op_add (pe_ix ix_list (pv 0) pe_int (fun _ _ => rfl)) pe_int) (pg_sub (pv 0) pe_int set_list))
      (pss_cons (ps_if (pt_cmpR op_gt (pe_ix ix_list (pv 0) pe_int (fun _ _ => rfl)) pe_int (nomark _))
        (pss_cons (ps_set (i := 2) sc_draw.nd rfl (Or.inl rfl) (pe_op op_modN (pe_callTy (T := "int") call_int1 (by rfl) T.m_int (by decide +kernel) (pa_cons (pe_ix ix_list (pv 0) pe_int (fun _ _ => rfl)) pa_nil)) (pv 1)))
      (pss_cons (ps_asg (pe_op op_fdivN (pe_ix ix_list (pv 0) pe_int (fun _ _ => rfl)) (pv 1)) (pg_sub (pv 0) pe_int set_list))
      (pss_one (ps_ret (pv 2)))))
        pss_nil)
      (pss_cons (ps_set (i := 3) sc_draw.nd rfl (Or.inl rfl) pe_int)
      (Evl.pss_cut (ps_if (pt_cmpR (op_neD hr.units) (pe_ix ix_list (pv 0) pe_int (fun _ _ => rfl)) (pe_lst pa_nil) (nomark _))
        (pss_one (ps_set (i := 3) sc_draw.nd rfl (Or.inl rfl) (pe_ix ix_list (pe_ix ix_list (pv 0) pe_int (fun _ _ => rfl)) (pe_op op_modN (pe_callTy (T := "int") call_int1 (by rfl) T.m_int (by decide +kernel) (pa_cons (pe_ix ix_list (pv 0) pe_int (fun _ _ => rfl)) pa_nil)) (pe_callB (id := "len") call_len_seq (by rfl) T.m_len (by decide +kernel) (pa_cons (pe_ix ix_list (pv 0) pe_int (fun _ _ => rfl)) pa_nil))) (fun _ _ => rfl))))
        pss_nil)
      (pss_cons (ps_asg (pe_op op_add (pe_ix ix_list (pv 0) pe_int (fun _ _ => rfl)) pe_int) (pg_sub (pv 0) pe_int set_list))
      (Evl.pss_cut (ps_if (PW.pt (pw_and (pt_cmpR op_ge (pe_callB (id := "abs") call_abs (by rfl) T.m_abs (by decide +kernel) (pa_cons (pv 3) pa_nil)) (pe_op op_pow pe_int pe_int) (nomark _)) (pw_and1 (pt_cmpR op_le (pe_ix ix_list (pv 0) pe_int (fun _ _ => rfl)) (pe_callB (id := "len") call_len_seq (by rfl) T.m_len (by decide +kernel) (pa_cons (pe_ix ix_list (pv 0) pe_int (fun _ _ => rfl)) pa_nil)) (nomark _)))))
        (pss_cons (ps_asg (pe_op op_fdivN (pe_callB (id := "abs") call_abs (by rfl) T.m_abs (by decide +kernel) (pa_cons (pv 3) pa_nil)) (pv 1)) (pg_sub (pv 0) pe_int set_list))
      (pss_one (ps_ret (pe_op op_modN (pe_callTy (T := "int") call_int1 (by rfl) T.m_int (by decide +kernel) (pa_cons (pe_callB (id := "abs") call_abs (by rfl) T.m_abs (by decide +kernel) (pa_cons (pv 3) pa_nil)) pa_nil)) (pv 1)))))
        pss_nil)
      (pss_cons (ps_set (i := 4) sc_draw.nd rfl (Or.inl rfl) (pe_op op_modN (pe_op op_pow (pe_callTy (T := "int") call_int1 (by rfl) T.m_int (by decide +kernel) (pa_cons (pe_op op_add (pe_op op_modN (pe_callTy (T := "int") call_int1 (by rfl) T.m_int (by decide +kernel) (pa_cons (pv 3) pa_nil)) pe_int) (pe_op op_mul pe_int (pe_ix ix_list (pv 0) pe_int (fun _ _ => rfl)))) pa_nil)) pe_int) pe_int))
      (pss_cons (ps_set (i := 4) sc_draw.nd rfl (Or.inl rfl) (pe_op op_modN (pe_op op_pow (pe_callTy (T := "int") call_int1 (by rfl) T.m_int (by decide +kernel) (pa_cons (pe_op op_add (pe_op op_mul (pv 4) (pe_op op_add (pe_op op_mul pe_int (pe_ix ix_list (pv 0) pe_int (fun _ _ => rfl))) pe_int)) pe_int) pa_nil)) pe_int) pe_int))
      (pss_one (ps_ret (pe_op op_modN (pe_op op_fdivN (pv 4) pe_int) (pv 1)))))))))))), ?_⟩
    -- the number of draws
    refine ⟨_, rfl, p, _, 3, _, rfl, rfl, SqL.of hp, rfl, _, _, rfl, rfl, _, rfl, p, _, 3, 3, rfl, rfl, hp, rfl, ?_⟩
    have en : ((n : Int) + 1) = ((n + 1 : Nat) : Int) := by omega
    have h1 : upd H p (.lst [.ref l, .int c, .int r, .int ((n : Int) + 1)]) p = some (.lst [.ref l, .int c, .int r, .int ((n : Int) + 1)]) := upd_same
    have K1 : Keep p H (upd H p (.lst [.ref l, .int c, .int r, .int ((n : Int) + 1)])) := Keep.put hp
    have l1 := K1.seq lp hl
    refine ⟨_, rfl, p, _, 2, _, rfl, rfl, SqL.of h1, rfl, _, _, rfl, rfl, _, rfl, ite2 (fun hpos => ?_) (fun _ => ?_)⟩
    · refine ⟨_, rfl, p, _, 2, _, rfl, rfl, SqL.of h1, rfl, .inl ⟨_, rfl, _, rfl, _, _, rfl, rfl, mne, ?_⟩⟩
      refine ⟨_, rfl, p, _, 2, _, rfl, rfl, SqL.of h1, rfl, _, rfl, _, _, rfl, rfl, md, _, rfl, p, _, 2, 2, rfl, rfl, h1, rfl, ?_⟩
      refine ⟨_, rfl, k _ _ (fmod_lo m0) (fmod_hi m0) ?_ (K1.trans (Keep.put h1))⟩
      exact ⟨l, ns, c, r.fdiv m, by rw [upd_same, ← en]; rfl, lp, (K1.trans (Keep.put h1)).seq lp hl, h63, c0, fdiv_lo r0 m0⟩
    · -- the cell: 67, or one of the script's
      let H1 := upd H p (.lst [.ref l, .int c, .int r, .int ((n : Int) + 1)])
      refine ⟨fun σ' H2 => ∃ z : Int, σ' = [some (.ref p), some (.int m), none, some (.int z), none] ∧ Same H1 H2, ?_, ?_⟩
      · refine ⟨_, rfl, p, _, 0, _, rfl, rfl, SqL.of h1, rfl, Nat.zero_le _, fun q hq => ?_⟩
        have s2 : Same H1 (upd H1 q (.lst [])) := fun b o e => by
          rw [upd_ne (ne_of_none e hq)]
          exact e
        have h2 := s2 _ _ h1
        refine ⟨.list (ns.map PyData.int), .list [], .lst (s2.seq l1) (ints_dp ns), .lst (SqL.of upd_same) .nil, ints_shaped ns, by decide, _, rfl, ?_⟩
        rw [ints_nil]
        cases ns with
        | nil => exact ⟨67, rfl, s2⟩
        | cons y ys =>
          refine iteT ?_
          have len0 : (((y :: ys).length : Nat) : Int) ≠ 0 := by rw [List.length_cons]; omega
          have lenp : (0 : Int) < (((y :: ys).length : Nat) : Int) := by rw [List.length_cons]; omega
          have e2 : (((y :: ys).map V.int).length : Int) = (((y :: ys).length : Nat) : Int) := by rw [List.length_map]
          obtain ⟨z, hz⟩ := int_at (y :: ys) (c.fmod (((y :: ys).length : Nat) : Int)) (fmod_lo lenp) (fmod_hi lenp)
          refine ⟨_, rfl, p, _, 0, _, rfl, rfl, SqL.of h2, rfl, _, rfl, p, _, 1, _, rfl, rfl, SqL.of h2, rfl, .inl ⟨_, rfl, _, rfl, p, _, 0, _, rfl, rfl, SqL.of h2, rfl, l, _, rfl, .inl (s2.seq l1), c, _, rfl, rfl, by rw [e2]; exact len0, ?_⟩⟩
          rw [e2]
          exact ⟨l, _, _, _, rfl, rfl, s2.seq l1, hz, z, rfl, s2⟩
      · rintro σ' H2 ⟨z, rfl, s2⟩
        have h2 := s2 _ _ h1
        have K2 : Keep p H H2 := K1.trans (Keep.of_same s2)
        -- one cell more has been read
        refine ⟨_, rfl, p, _, 1, _, rfl, rfl, SqL.of h2, rfl, _, _, rfl, rfl, _, rfl, p, _, 1, 1, rfl, rfl, h2, rfl, ?_⟩
        have K3 : Keep p H (upd H2 p (.lst [.ref l, .int (c + 1), .int r, .int ((n : Int) + 1)])) := K2.trans (Keep.put h2)
        have h3 : upd H2 p (.lst [.ref l, .int (c + 1), .int r, .int ((n : Int) + 1)]) p = some (.lst [.ref l, .int (c + 1), .int r, .int ((n : Int) + 1)]) := upd_same
        have l3 := K3.seq lp hl
        have D3 : Deck K (upd H2 p (.lst [.ref l, .int (c + 1), .int r, .int ((n : Int) + 1)])) p (n + 1) := ⟨l, ns, c + 1, r, by rw [h3, en], lp, l3, h63, by omega, r0⟩
        refine ⟨fun σ' H' => σ' = [some (.ref p), some (.int m), none, some (.int z), none] ∧ H' = upd H2 p (.lst [.ref l, .int (c + 1), .int r, .int ((n : Int) + 1)]), ?_, ?_⟩
        · refine ⟨_, rfl, _, rfl, 10, 18, rfl, rfl, ⟨by decide, by decide, by decide⟩, _, _, rfl, rfl, _, rfl, ?_⟩
          refine ite2 (fun _ => ?_) (fun _ => iteF ⟨rfl, rfl⟩)
          refine ⟨_, rfl, p, _, 1, _, rfl, rfl, SqL.of h3, rfl, _, rfl, p, _, 0, _, rfl, rfl, SqL.of h3, rfl, l, _, rfl, .inl l3, _, _, rfl, rfl, _, rfl, ?_⟩
          refine ite2 (fun _ => ?_) (fun _ => ⟨rfl, rfl⟩)
          have az : 0 ≤ (if z < 0 then -z else z) := by split <;> omega
          refine ⟨_, rfl, _, rfl, _, rfl, _, _, rfl, rfl, ⟨mne, by omega⟩, _, rfl, p, _, 2, 2, rfl, rfl, h3, rfl, ?_⟩
          refine ⟨_, rfl, _, rfl, .inl ⟨_, rfl, _, rfl, _, _, rfl, rfl, mne, ?_⟩⟩
          refine k _ _ (fmod_lo m0) (fmod_hi m0) ?_ (K3.trans (Keep.put h3))
          exact ⟨l, ns, c + 1, (if z < 0 then -z else z).fdiv m, by rw [upd_same, ← en]; rfl, lp, (K3.trans (Keep.put h3)).seq lp hl, h63, by omega, fdiv_lo az m0⟩
        · rintro σ' H' ⟨rfl, rfl⟩
          -- otherwise mixed
          have a0 : 0 ≤ z.fmod 2147483629 := fmod_lo (by decide)
          have a1 : z.fmod 2147483629 < 2147483629 := fmod_hi (by decide)
          refine ⟨_, rfl, .inl ⟨_, rfl, _, _, rfl, rfl, (by show (2147483629 : Int) ≠ 0; decide), _, rfl, p, _, 3, _, rfl, rfl, SqL.of h3, rfl, _, _, rfl, rfl, .inl ⟨by show -(2 ^ 64) < (67867967 : Int); decide, by show (67867967 : Int) < 2 ^ 64; decide⟩, _, _, rfl, rfl, ?_⟩⟩
          refine .inl ⟨_, rfl, _, _, rfl, rfl, ⟨by show (0 : Int) ≤ 5; decide, by show (5 : Int) ≤ 1000000; decide, by omega⟩, _, _, rfl, rfl, (by show (2147483647 : Int) ≠ 0; decide), ?_⟩
          generalize ((z.fmod 2147483629 + 67867967 * ((n : Int) + 1)) ^ (5 : Int).toNat) = big
          have b0 : 0 ≤ big.fmod 2147483647 := fmod_lo (by decide)
          have b1 : big.fmod 2147483647 < 2147483647 := fmod_hi (by decide)
          obtain ⟨mix, hm⟩ : ∃ mix, mix = big.fmod 2147483647 := ⟨_, rfl⟩
          rw [← hm] at b0 b1
          have c1 : mix * (2 * ((n : Int) + 1) + 3) ≤ 2147483647 * 3000000 := Int.mul_le_mul (by omega) (by omega) (by omega) (by decide)
          have c2 : 0 ≤ mix * (2 * ((n : Int) + 1) + 3) := Int.mul_nonneg b0 (by omega)
          have c3 : (mix * (2 * ((n : Int) + 1) + 3) + 5323).natAbs < 2 ^ 64 := by omega
          have c4 : -(2 ^ 64) < mix ∧ mix < 2 ^ 64 := ⟨by omega, by omega⟩
          rw [hm] at c3 c4
          refine ⟨_, rfl, _, rfl, p, _, 3, _, rfl, rfl, SqL.of h3, rfl, _, _, rfl, rfl, .inl ⟨by show -(2 ^ 64) < (2 : Int); decide, by show (2 : Int) < 2 ^ 64; decide⟩, _, _, rfl, rfl, _, _, rfl, rfl, .inl c4, _, _, rfl, rfl, ?_⟩
          refine .inl ⟨_, rfl, _, _, rfl, rfl, ⟨by show (0 : Int) ≤ 3; decide, by show (3 : Int) ≤ 1000000; decide, c3⟩, _, _, rfl, rfl, (by show (2147483587 : Int) ≠ 0; decide), ?_⟩
          refine ⟨_, rfl, _, _, rfl, rfl, ⟨by show (64 : Int) ≠ 0; decide, by show (64 : Int).natAbs < 1073741824; decide⟩, _, rfl, _, _, rfl, rfl, mne, ?_⟩
          exact k _ _ (fmod_lo m0) (fmod_hi m0) D3 K3
theorem ok_one (T : Txt K mg) : FnOk P w K mg base CX0 2 T.a_one T.d_one ["_law_deck_here", "_law_items"] (sp_one K) := by
  have G_draw : FnOk P w K mg base CX0 1 T.a_draw T.d_draw ["_law_deck_here", "_law_many"] (sp_draw K) := ok_draw T
  refine T.F_one.ok sc_one (fun vs H Q E h => ?_) (fun cdv A outer s H vs Q E hr h => ?_)
  · obtain ⟨p, a, xs, n, rfl, _⟩ := h
    rfl
  · obtain ⟨p, a, xs, n, rfl, hx, ap, x0, x1, D, hn, k⟩ := h
    refine ⟨_, (pss_one (ps_ret (pe_ix ix_seq (pv 1) (pe_call G_draw (hr.mono (by omega)) (by rfl) T.g_draw T.F_draw.kp T.b_draw .nil pass0 (pa_cons (pv 0) (pa_cons (pe_callB (id := "len") call_len_seq (by rfl) T.m_len (by decide +kernel) (pa_cons (pv 1) pa_nil)) pa_nil))) (fun _ _ => rfl)))), ?_⟩
    refine ⟨_, rfl, _, rfl, _, rfl, a, xs, rfl, .inl hx, p, (xs.length : Int), n, rfl, by omega, by omega, D, hn, fun r J r0 r1 DJ KJ => ?_⟩
    obtain ⟨i, rfl⟩ : ∃ i : Nat, r = (i : Int) := ⟨r.toNat, (Int.toNat_of_nonneg r0).symm⟩
    have hi : i < xs.length := by omega
    refine rIx_of (.inl (KJ.seq ap hx)) (atI_nat (List.getElem?_eq_getElem hi)) ?_
    exact k i _ J (List.getElem?_eq_getElem hi) DJ KJ
end

/-! ### the deck made -/
theorem same_new {q : Addr} {H : Hp} {o : HO} (h : H q = none) : Same H (upd H q o) := fun b u e => by
  rw [upd_ne (ne_of_none e h)]
  exact e
theorem Deck.of_same {K : PySem.W.Frag} {H J : Hp} {p : Addr} {n : Nat} (D : Deck K H p n) (e : Same H J) : Deck K J p n := by
  obtain ⟨l, ns, c, r, hp, lp, hl, z⟩ := D
  exact ⟨l, ns, c, r, e _ _ hp, lp, e.seq hl, z⟩
theorem Keep.free {p q : Addr} {H J : Hp} (k : Keep p H J) (n : q ≠ p) (h : J q = none) : H q = none := by
  cases e : H q with
  | none => rfl
  | some o =>
    cases o with
    | tbl x =>
      obtain ⟨x', e', _⟩ := k.t q x e
      rw [e'] at h
      cases h
    | _ =>
      rw [k.at n e] at h
      cases h
def sp_deck (K : PySem.W.Frag) : Sp := fun vs H Q _ => ∃ (a : Addr) (ns : List Int), vs = [.ref a] ∧ SqL K H a (ns.map V.int) ∧ ns.length ≤ 63 ∧
  ∀ (p : Addr) (J : Hp), Deck K J p 0 → Same H J → H p = none → Q (.ref p) J
theorem cut63 (xs : List V) (h : xs.length ≤ 63) : cutV xs none (some 63) = xs := by
  unfold cutV
  rw [HT.sIx_none, show HT.sIx xs.length xs.length (some 63) = min 63 xs.length from HT.sIx_nat xs.length xs.length 63]
  rw [List.drop_zero, Nat.sub_zero, List.take_of_length_le (by omega)]
section
variable {P : Program} {w : World} {K : PySem.W.Frag} {mg : Str → Option Value} {base : Heap}
theorem ok_deck (T : Txt K mg) : FnOk P w K mg base CX0 1 T.a_deck T.d_deck ["_law_script"] (sp_deck K) := by
  refine T.F_deck.ok sc_deck (fun vs H Q E h => ?_) (fun cdv A outer s H vs Q E hr h => ?_)
  · obtain ⟨a, ns, rfl, _⟩ := h
    rfl
  · obtain ⟨a, ns, rfl, hl, h63, k⟩ := h
    refine ⟨_, (pss_one (ps_ret (pe_lst (pa_cons (pe_callTy (T := "list") call_list_of (by rfl) T.m_list (by decide +kernel) (pa_cons (pe_slice sl_list (pv 0) po_none (po_some pe_int)) pa_nil)) (pa_cons pe_int (pa_cons pe_int (pa_cons pe_int pa_nil))))))), ?_⟩
    refine ⟨_, rfl, 63, rfl, a, _, rfl, hl, fun c hc => ?_⟩
    have s1 : Same H (upd H c (.lst (cutV (ns.map V.int) none (some 63)))) := same_new hc
    refine ⟨c, _, rfl, .inl (SqL.of upd_same), fun l hl' => ?_⟩
    refine ⟨by show 4 ≤ sizeLine; decide, fun p hp => ?_⟩
    have s2 := s1.trans (same_new (o := .lst (cutV (ns.map V.int) none (some 63))) hl')
    have lp : l ≠ p := fun e => by
      rw [← e, upd_same] at hp
      cases hp
    refine k p _ ⟨l, ns, 0, 0, upd_same, lp, SqL.of ?_, h63, by decide, by decide⟩ (s2.trans (same_new hp)) (s2.free hp)
    rw [upd_ne lp, upd_same, cut63 _ (by rw [List.length_map]; exact h63)]
end

/-! ### powers, houses drawn -/
def HouseOf (room s r g : Int) : Prop := 2 ≤ s ∧ s ≤ 4 ∧ 1 ≤ r ∧ r ≤ 6 ∧ 0 ≤ g ∧ g ≤ 3 ∧ s ^ (g + 1).toNat ≤ room
def sp_power : Sp := fun vs H Q _ => ∃ (s g : Int), vs = [.int s, .int g] ∧ 0 ≤ s ∧ s ≤ 100 ∧ -1 ≤ g ∧ g ≤ 100 ∧ Q (.int (s ^ (g + 1).toNat)) H
def sp_house (K : PySem.W.Frag) : Sp := fun vs H Q _ => ∃ (p : Addr) (room : Int) (n : Nat), vs = [.ref p, .int room] ∧ 4 ≤ room ∧ Deck K H p n ∧ n < 900000 ∧
  ∀ (s r g : Int) (t : Addr) (J : Hp), HouseOf room s r g → J t = some (.tup [.int s, .int r, .int g]) → H t = none → Deck K J p (n + 4) → Keep p H J → Q (.ref t) J
section
variable {P : Program} {w : World} {K : PySem.W.Frag} {mg : Str → Option Value} {base : Heap}
theorem ok_power (T : Txt K mg) : FnOk P w K mg base CX0 1 T.a_power T.d_power ["_law_servers", "_law_lag"] sp_power := by
  refine T.F_power.ok sc_power (fun vs H Q E h => ?_) (fun cdv A outer s H vs Q E hr h => ?_)
  · obtain ⟨s, g, rfl, _⟩ := h
    rfl
  · obtain ⟨z, g, rfl, s0, s1, g0, g1, k⟩ := h
    refine ⟨_, (pss_cons (ps_set (i := 2) sc_power.nd rfl (Or.inl rfl) pe_int)
      (pss_cons (ps_for PassesOwn.never rfl (pi_range1 (by rfl) T.m_range (pa_cons (pe_op op_add (pv 1) pe_int) pa_nil)) (pg_name (i := 3) sc_power.nd rfl (Or.inl rfl))
        (pss_one (ps_set (i := 2) sc_power.nd rfl (Or.inl rfl) (pe_op op_mul (pv 2) (pv 0)))))
      (pss_one (ps_ret (pv 2))))), ?_⟩
    refine ⟨_, rfl, _, _, rfl, rfl, _, rfl, by omega, by omega, for_range (lo := 0) (n := (g + 1).toNat) (fun i σ H' => H' = H ∧ ∃ y, σ = [some (.int z), some (.int g), some (.int (z ^ i)), y]) ⟨rfl, none, by rw [Int.pow_zero]; rfl⟩ ?_ ?_⟩
    · rintro i σ H' hi ⟨rfl, y, rfl⟩
      refine ⟨_, rfl, _, rfl, _, _, rfl, rfl, .inr ⟨by omega, by omega⟩, rfl, some (.int (0 + (i : Int))), ?_⟩
      rw [Int.pow_succ]
      rfl
    · rintro σ H' ⟨rfl, y, rfl⟩
      exact ⟨_, rfl, k⟩
theorem ok_house (T : Txt K mg) : FnOk P w K mg base CX0 3 T.a_house T.d_house ["_law_deck_here", "_law_room"] (sp_house K) := by
  have G_draw : FnOk P w K mg base CX0 1 T.a_draw T.d_draw ["_law_deck_here", "_law_many"] (sp_draw K) := ok_draw T
  have G_one : FnOk P w K mg base CX0 2 T.a_one T.d_one ["_law_deck_here", "_law_items"] (sp_one K) := ok_one T
  have G_power : FnOk P w K mg base CX0 1 T.a_power T.d_power ["_law_servers", "_law_lag"] sp_power := ok_power T
  refine T.F_house.ok sc_house (fun vs H Q E h => ?_) (fun cdv A outer s H vs Q E hr h => ?_)
  · obtain ⟨p, room, n, rfl, _⟩ := h
    rfl
  · obtain ⟨p, room, n, rfl, r4, D, hn, k⟩ := h
    refine ⟨_, (pss_cons (ps_set (i := 2) sc_house.nd rfl (Or.inr rfl) (pe_call G_one (hr.mono (by omega)) (by rfl) T.g_one T.F_one.kp T.b_one .nil pass0 (pa_cons (pv 0) (pa_cons (pe_lst (pa_cons pe_int (pa_cons pe_int (pa_cons pe_int (pa_cons pe_int (pa_cons pe_int pa_nil)))))) pa_nil))))
      (pss_cons (ps_setLc (i := 3) (own := [("_law_lag", 4)]) (g := gName 4) (by rfl) sc_house.nd rfl rfl (sw_true rfl rfl rfl (by decide +kernel)) (pi_range1 (by rfl) T.m_range (pa_cons pe_int pa_nil)) (blkOk_by (own := [("_law_lag", 4)]) (N := ["_law_deck_here", "_law_room", "_law_servers", "_law_fits", "_law_lag"]) (sc := defScope s_house) (by decide +kernel)) (fun _ _ _ _ _ => (pg_name (i := 4) sc_house.nd rfl (Or.inl rfl))) (fun _ _ _ _ _ => (pts_one (pt_cmpR op_le (pe_call G_power (hr.mono (by omega)) (by rfl) T.g_power T.F_power.kp T.b_power .nil pass0 (pa_cons (pv 2) (pa_cons (pv 4) pa_nil))) (pv 1) (nomark _)))) (fun _ _ _ _ _ => (pv 4)))
      (pss_cons (ps_set (i := 4) sc_house.nd rfl (Or.inl rfl) (pe_call G_one (hr.mono (by omega)) (by rfl) T.g_one T.F_one.kp T.b_one .nil pass0 (pa_cons (pv 0) (pa_cons (pv 3) pa_nil))))
      (pss_one (ps_ret (pe_tup (pa_cons (pv 2) (pa_cons (pe_call G_one (hr.mono (by omega)) (by rfl) T.g_one T.F_one.kp T.b_one .nil pass0 (pa_cons (pv 0) (pa_cons (pe_lst (pa_cons pe_int (pa_cons pe_int (pa_cons pe_int (pa_cons pe_int (pa_cons pe_int (pa_cons (pe_op op_add pe_int (pe_call G_draw (hr.mono (by omega)) (by rfl) T.g_draw T.F_draw.kp T.b_draw .nil pass0 (pa_cons (pv 0) (pa_cons pe_int pa_nil)))) pa_nil))))))) pa_nil))) (pa_cons (pv 4) pa_nil))))))))), ?_⟩
    -- servers
    refine ⟨_, rfl, by show 5 ≤ sizeLine; decide, fun l hl => ?_⟩
    refine ⟨p, l, _, n, rfl, SqL.of upd_same, D.ne_new hl, by show 0 < 5; decide, by show 5 < 100000; decide, D.put hl, by omega, fun i x J hx DJ KJ => ?_⟩
    obtain ⟨z, rfl, z2, z4⟩ : ∃ z : Int, x = .int z ∧ 2 ≤ z ∧ z ≤ 4 := by
      have m := List.mem_of_getElem? hx
      simp only [List.mem_cons, List.not_mem_nil, or_false] at m
      rcases m with m | m | m | m | m <;> exact ⟨_, m, by decide, by decide⟩
    have K1 : Keep p H J := (Keep.new hl).trans KJ
    -- the lags that fit
    refine ⟨4, rfl, by show -(2 ^ 62) ≤ (4 : Int); decide, by show (4 : Int) < 2 ^ 62; decide, fun F hF => ?_⟩
    refine lc_range (lo := 0) (n := 4) (fun i H' => ∃ acc : List Int, H' = upd J F (.lst (acc.map V.int)) ∧ acc.length ≤ i ∧ (0 < i → acc ≠ []) ∧ ∀ y ∈ acc, 0 ≤ y ∧ y ≤ 3 ∧ z ^ (y + 1).toNat ≤ room)
      ⟨[], rfl, Nat.le_refl _, fun q => absurd q (by decide), fun y q => (List.not_mem_nil q).elim⟩ ?_ ?_
    · rintro i H' hi ⟨acc, rfl, al, an, ay⟩
      refine ⟨rfl, ?_⟩
      refine ⟨_, rfl, _, rfl, z, 0 + (i : Int), rfl, by omega, by omega, by omega, by omega, _, rfl, _, _, rfl, rfl, _, rfl, ?_⟩
      refine ite2 (fun e => ?_) (fun e => ?_)
      · have le := of_decide_eq_true e
        refine ⟨_, rfl, acc.map V.int, upd_same, small1000 (by rw [List.length_map]; omega), acc ++ [0 + (i : Int)], ?_, by rw [List.length_append, List.length_singleton]; omega, fun _ q => ?_, ?_⟩
        · rw [upd_upd, List.map_append]
          rfl
        · exact absurd (congrArg List.length q) (by rw [List.length_append, List.length_singleton, List.length_nil]; omega)
        · intro y hy
          rcases List.mem_append.mp hy with q | q
          · exact ay y q
          · rw [List.mem_singleton] at q
            rw [q]
            exact ⟨by omega, by omega, le⟩
      · refine ⟨acc, rfl, by omega, fun _ => ?_, ay⟩
        cases i with
        | zero =>
          refine absurd ?_ e
          refine decide_eq_true ?_
          have : z ^ (0 + ((0 : Nat) : Int) + 1).toNat = z := by
            show z ^ 1 = z
            rw [Int.pow_succ, Int.pow_zero, Int.one_mul]
          rw [this]
          omega
        | succ i => exact an (Nat.succ_pos i)
    · rintro H' ⟨acc, rfl, al, an, ay⟩
      have DF := DJ.put (o := .lst (acc.map V.int)) hF
      have K2 : Keep p H (upd J F (.lst (acc.map V.int))) := K1.trans (Keep.new hF)
      have a0 : 0 < acc.length := by
        cases acc with
        | nil => exact absurd rfl (an (by decide))
        | cons _ _ => exact Nat.succ_pos _
      -- the lag
      refine ⟨_, rfl, _, rfl, p, F, _, n + 1, rfl, SqL.of upd_same, DJ.ne_new hF, by rw [List.length_map]; exact a0, by rw [List.length_map]; omega, DF, by omega, fun j x J2 hx2 DJ2 KJ2 => ?_⟩
      obtain ⟨g, rfl, g0, g3, gr⟩ : ∃ g : Int, x = .int g ∧ 0 ≤ g ∧ g ≤ 3 ∧ z ^ (g + 1).toNat ≤ room := by
        have m := List.mem_of_getElem? hx2
        obtain ⟨y, hy, rfl⟩ := List.mem_map.mp m
        exact ⟨y, rfl, ay y hy⟩
      have K3 := K2.trans KJ2
      -- the rest
      refine ⟨_, rfl, _, rfl, _, rfl, p, 6, n + 2, rfl, by decide, by decide, DJ2, by omega, fun r J3 r0 r1 DJ3 KJ3 => ?_⟩
      have K4 := K3.trans KJ3
      refine ⟨_, _, rfl, rfl, by show 6 ≤ sizeLine; decide, fun l3 hl3 => ?_⟩
      refine ⟨p, l3, _, n + 3, rfl, SqL.of upd_same, DJ3.ne_new hl3, by show 0 < 6; decide, by show 6 < 100000; decide, DJ3.put hl3, by omega, fun j3 x3 J4 hx3 DJ4 KJ4 => ?_⟩
      obtain ⟨y, rfl, y1, y6⟩ : ∃ y : Int, x3 = .int y ∧ 1 ≤ y ∧ y ≤ 6 := by
        have m := List.mem_of_getElem? hx3
        simp only [List.mem_cons, List.not_mem_nil, or_false] at m
        rcases m with m | m | m | m | m | m
        · exact ⟨_, m, by decide, by decide⟩
        · exact ⟨_, m, by decide, by decide⟩
        · exact ⟨_, m, by decide, by decide⟩
        · exact ⟨_, m, by decide, by decide⟩
        · exact ⟨_, m, by decide, by decide⟩
        · exact ⟨_, m, by omega, by omega⟩
      have K5 : Keep p H J4 := (K4.trans (Keep.new hl3)).trans KJ4
      refine ⟨_, rfl, by show 3 ≤ sizeLine; decide, fun t ht => ?_⟩
      exact k z y g t _ ⟨z2, z4, y1, y6, g0, g3, gr⟩ upd_same (K5.free (DJ4.ne_new ht) ht) (DJ4.put ht) (K5.trans (Keep.new ht))
end

/-! ### data behind the deck -/
/-- data behind the deck -/
abbrev Dt (K : PySem.W.Frag) (p : Addr) (H : Hp) (v : V) (d : PyData) : Prop := Dp K (off p H) v d
theorem Keep.dt {K : PySem.W.Frag} {p : Addr} {H J : Hp} {v : V} {d : PyData} (k : Keep p H J) (h : Dt K p H v d) : Dt K p J v d := dpSame k.s d v h
theorem Keep.all {K : PySem.W.Frag} {p : Addr} {H J : Hp} {vs : List V} {ds : List PyData} (k : Keep p H J) (h : DpAll K (off p H) vs ds) : DpAll K (off p J) vs ds := dpAllSame k.s ds vs h
theorem dt_tup {K : PySem.W.Frag} {p t : Addr} {H : Hp} {vs : List V} {ds : List PyData} (tp : t ≠ p) (ht : H t = none) (h : DpAll K (off p H) vs ds) : Dt K p (upd H t (.tup vs)) (.ref t) (.tuple ds) :=
  .tup (SqT.of (off_at tp upd_same)) (Keep.all (Keep.new ht) h)
theorem dt_lst {K : PySem.W.Frag} {p t : Addr} {H : Hp} {vs : List V} {ds : List PyData} (tp : t ≠ p) (ht : H t = none) (h : DpAll K (off p H) vs ds) : Dt K p (upd H t (.lst vs)) (.ref t) (.list ds) :=
  .lst (SqL.of (off_at tp upd_same)) (Keep.all (Keep.new ht) h)
theorem dpAll_snoc {K : PySem.W.Frag} {H : Hp} {vs : List V} {ds : List PyData} {v : V} {d : PyData} (a : DpAll K H vs ds) (b : Dp K H v d) : DpAll K H (vs ++ [v]) (ds ++ [d]) := dpAll_append a (.cons b .nil)
theorem niceAll_append {e : Nat} (a b : List PyData) : niceAll e (a ++ b) = (niceAll e a && niceAll e b) := by
  induction a with
  | nil => simp [niceAll]
  | cons x a ih => simp [niceAll, ih, Bool.and_assoc]
theorem niceAll_reverse {e : Nat} {a : List PyData} (h : niceAll e a = true) : niceAll e a.reverse = true :=
  niceAll_iff.mpr fun d hd => niceAll_iff.mp h d (List.mem_reverse.mp hd)
theorem depthAll_reverse (a : List PyData) : PyData.depthAll a.reverse = PyData.depthAll a :=
  Nat.le_antisymm (depthAll_le.mpr fun d hd => depthAll_le.mp (Nat.le_refl _) d (List.mem_reverse.mp hd)) (depthAll_le.mpr fun d hd => depthAll_le.mp (Nat.le_refl _) d (List.mem_reverse.mpr hd))
theorem split_at {α : Type} {l : List α} {j : Nat} {x : α} (h : l[j]? = some x) : l = l.take j ++ x :: l.drop (j + 1) := by
  have hj := (List.getElem?_eq_some_iff.mp h).1
  have e := (List.getElem?_eq_some_iff.mp h).2
  rw [← e, List.getElem_cons_drop, List.take_append_drop]
theorem cut_to (xs : List V) (j : Nat) (h : j ≤ xs.length) : cutV xs none (some (j : Int)) = xs.take j := by
  unfold cutV
  rw [HT.sIx_none, HT.sIx_nat, List.drop_zero, Nat.sub_zero, Nat.min_eq_left h]
theorem cut_from (xs : List V) (j : Nat) (h : j ≤ xs.length) : cutV xs (some (j : Int)) none = xs.drop j := by
  unfold cutV
  rw [HT.sIx_none, HT.sIx_nat, Nat.min_eq_left h, List.take_of_length_le (by rw [List.length_drop]; exact Nat.le_refl _)]
theorem isA_tup {d : PyData} (h : isA "tuple" d = true) : ∃ ds, d = .tuple ds := by
  cases d <;> first | exact ⟨_, rfl⟩ | (exfalso; revert h; simp [isA, isS, kindD])
theorem isA_int {d : PyData} (h : isA "int" d = true) (hb : isA "bool" d = false) : ∃ i, d = .int i := by
  cases d <;> first | exact ⟨_, rfl⟩ | (exfalso; revert h hb; simp [isA, isS, kindD])
theorem Dt.get {K : PySem.W.Frag} {p : Addr} {H : Hp} {v : V} {ds : List PyData} (h : Dt K p H v (.tuple ds)) : ∃ (a : Addr) (xs : List V), v = .ref a ∧ SqT K H a xs ∧ DpAll K (off p H) xs ds := by
  cases h with | tup h1 h2 => exact ⟨_, _, rfl, sameT off_in h1, h2⟩
theorem dt_of {K : PySem.W.Frag} {p t : Addr} {H : Hp} {n : Nat} {xs : List V} {ds : List PyData} (D : Deck K H p n) (h : SqT K H t xs) (a : DpAll K (off p H) xs ds) : Dt K p H (.ref t) (.tuple ds) := by
  obtain ⟨_, _, _, _, hp, _⟩ := D
  exact .tup (tup_off hp h) a
theorem paired_snoc {α β : Type} {F : α → β → Prop} : ∀ {as : List α} {bs : List β} {a : α} {b : β}, Paired F as bs → F a b → Paired F (as ++ [a]) (bs ++ [b])
  | _, _, _, _, .nil, h => .cons h .nil
  | _, _, _, _, .cons r t, h => .cons r (paired_snoc t h)
/-- on the way through a list of data: what has been made so far -/
structure Acc (K : PySem.W.Frag) (p : Addr) (n : Nat) (H0 H : Hp) (vs : List V) (ds : List PyData) : Prop where
  dk : Deck K H p n
  al : DpAll K (off p H) vs ds
  kp : Keep p H0 H
section
variable {K : PySem.W.Frag} {p t : Addr} {n : Nat} {vs us : List V} {ds es : List PyData} {H0 H J : Hp}
theorem Acc.same (a : Acc K p n H0 H vs ds) (s : Same H J) : Acc K p n H0 J vs ds := ⟨a.dk.of_same s, Keep.all (Keep.of_same s) a.al, a.kp.trans (Keep.of_same s)⟩
theorem Acc.new {o : HO} (a : Acc K p n H0 H vs ds) (h : H t = none) : Acc K p n H0 (upd H t o) vs ds := a.same (same_new h)
theorem Acc.add {v : V} {d : PyData} (a : Acc K p n H0 H vs ds) (b : Dt K p H v d) : Acc K p n H0 H (vs ++ [v]) (ds ++ [d]) := ⟨a.dk, dpAll_snoc a.al b, a.kp⟩
theorem Acc.keep {m : Nat} (a : Acc K p n H0 H vs ds) (k : Keep p H J) (D : Deck K J p m) : Acc K p m H0 J vs ds := ⟨D, k.all a.al, a.kp.trans k⟩
end
theorem dpAll_flat {K : PySem.W.Frag} {H : Hp} {vs : List V} {ds : List PyData} (h : DpAll K H vs ds) : ∀ n : Nat, DpAll K H (List.replicate n vs).flatten (List.replicate n ds).flatten
  | 0 => .nil
  | n + 1 => by
    rw [List.replicate_succ, List.replicate_succ, List.flatten_cons, List.flatten_cons]
    exact dpAll_append h (dpAll_flat h n)
theorem wt_flat (ds : List PyData) : ∀ n : Nat, wtAll (List.replicate n ds).flatten = n * wtAll ds
  | 0 => by simp [wtAll]
  | n + 1 => by
    rw [List.replicate_succ, List.flatten_cons, wtAll_append, wt_flat ds n, Nat.succ_mul]
    omega
theorem mem_flat {ds : List PyData} {d : PyData} : ∀ {n : Nat}, d ∈ (List.replicate n ds).flatten → d ∈ ds := fun {n} h => by
  obtain ⟨l, hl, hd⟩ := List.mem_flatten.mp h
  rw [List.eq_of_mem_replicate hl] at hd
  exact hd
theorem wt_take (ds : List PyData) (j : Nat) : wtAll (ds.take j) ≤ wtAll ds := by
  have := congrArg wtAll (List.take_append_drop j ds)
  rw [wtAll_append] at this
  omega
theorem wt_drop (ds : List PyData) (j : Nat) : wtAll (ds.drop j) ≤ wtAll ds := by
  have := congrArg wtAll (List.take_append_drop j ds)
  rw [wtAll_append] at this
  omega
/-- tuples and lists of small items -/
theorem tiny_tup {e W m : Nat} {ds : List PyData} (h : ∀ d ∈ ds, nice e d = true ∧ d.depth ≤ m) (hw : wtAll ds < W) : Tiny e W (m + 1) (.tuple ds) ∧ Tiny e W (m + 1) (.list ds) := by
  have a : niceAll e ds = true := niceAll_iff.mpr fun d hd => (h d hd).1
  have b : PyData.depthAll ds ≤ m := depthAll_le.mpr fun d hd => (h d hd).2
  refine ⟨⟨by simpa only [nice] using a, by simp only [wt]; omega, by simp only [PyData.depth]; omega⟩, ⟨by simpa only [nice] using a, by simp only [wt]; omega, by simp only [PyData.depth]; omega⟩⟩

/-! ### odd things, things bent -/
def oddD : List PyData := [.none, .bool true, .bool false, .int 0, .int 1, .int 2, .int (-1), .int 7, .int (10 ^ 40), .str "", .str "0", .str "named", .str "wait", .tuple [], .list [], .tuple [.int 0], .tuple [.int 1], .list [.int 0], .tuple [.int 0, .int 0]]
def oddE : List PyData := [.tuple [.bool true], .tuple [.int 0, .int 1], .tuple [.int 0, .int 1, .tuple [.int 0]], .tuple [.tuple [.int 0], .int 0], .tuple [.tuple [], .tuple []], .tuple [.int 0, .list [.int 1]], .tuple [.tuple [.int 0, .int 1], .tuple [.int 1, .int 1]]]
theorem odd_tiny : ∀ d ∈ oddD ++ oddE, Tiny 140 12 4 d := by
  have h : ∀ d ∈ oddD ++ oddE, (nice 140 d && decide (wt d ≤ 12) && decide (d.depth ≤ 4)) = true := by
    intro d hd
    simp only [oddD, oddE, List.cons_append, List.nil_append, List.mem_cons, List.not_mem_nil, or_false] at hd
    rcases hd with h | h | h | h | h | h | h | h | h | h | h | h | h | h | h | h | h | h | h | h | h | h | h | h | h | h <;> (rw [h]; decide +kernel)
  intro d hd
  have q := h d hd
  simp only [Bool.and_eq_true, decide_eq_true_eq] at q
  exact ⟨q.1.1, q.1.2, q.2⟩
/-- on the way through a list of data: what has been made so far, behind a list that stands at la -/
structure Way (K : PySem.W.Frag) (p : Addr) (n : Nat) (la : Addr) (xs : List V) (H0 H : Hp) (vs : List V) (ds : List PyData) : Prop where
  dk : Deck K H p n
  al : DpAll K (off p H) vs ds
  la : H la = some (.lst xs)
  kp : Keep p H0 H
section
variable {K : PySem.W.Frag} {p la t : Addr} {n : Nat} {xs vs us : List V} {ds es : List PyData} {H0 H : Hp}
theorem Way.step {o : HO} (w : Way K p n la xs H0 H vs ds) (h : H t = none) : Way K p n la xs H0 (upd H t o) vs ds :=
  ⟨w.dk.put h, Keep.all (Keep.new h) w.al, by rw [upd_ne (ne_of_none w.la h)]; exact w.la, w.kp.trans (Keep.new h)⟩
theorem Way.tup (w : Way K p n la xs H0 H vs ds) (h : H t = none) (a : DpAll K (off p H) us es) : Dt K p (upd H t (.tup us)) (.ref t) (.tuple es) := dt_tup (w.dk.ne_new h) h a
theorem Way.lst (w : Way K p n la xs H0 H vs ds) (h : H t = none) (a : DpAll K (off p H) us es) : Dt K p (upd H t (.lst us)) (.ref t) (.list es) := dt_lst (w.dk.ne_new h) h a
theorem Way.add {v : V} {d : PyData} (w : Way K p n la xs H0 H vs ds) (a : Dt K p H v d) : Way K p n la xs H0 H (vs ++ [v]) (ds ++ [d]) := ⟨w.dk, dpAll_snoc w.al a, w.la, w.kp⟩
end
def sp_odd (K : PySem.W.Frag) : Sp := fun vs H Q _ => ∃ (p : Addr) (n : Nat), vs = [.ref p] ∧ Deck K H p n ∧ n < 900000 ∧
  ∀ (v : V) (d : PyData) (J : Hp), Dt K p J v d → Tiny 140 12 4 d → Deck K J p (n + 1) → Keep p H J → Q v J
section
variable {P : Program} {w : World} {K : PySem.W.Frag} {mg : Str → Option Value} {base : Heap}
theorem ok_odd (T : Txt K mg) : FnOk P w K mg base CX0 3 T.a_odd T.d_odd ["_law_deck_here"] (sp_odd K) := by
  have G_one : FnOk P w K mg base CX0 2 T.a_one T.d_one ["_law_deck_here", "_law_items"] (sp_one K) := ok_one T
  refine T.F_odd.ok sc_odd (fun vs H Q E h => ?_) (fun cdv A outer s H vs Q E hr h => ?_)
  · obtain ⟨p, n, rfl, _⟩ := h
    rfl
  · obtain ⟨p, n, rfl, D, hn, k⟩ := h
    refine ⟨_, (pss_cons (ps_set (i := 1) sc_odd.nd rfl (Or.inl rfl) (pe_lst (pa_cons pe_non (pa_cons pe_bl (pa_cons pe_bl (pa_cons pe_int (pa_cons pe_int (pa_cons pe_int (pa_cons (pe_un un_neg pe_int) (pa_cons pe_int (pa_cons (pe_op op_pow pe_int pe_int) (pa_cons pe_str (pa_cons pe_str (pa_cons pe_str (pa_cons pe_str (pa_cons (pe_tup pa_nil) (pa_cons (pe_lst pa_nil) (pa_cons (pe_tup (pa_cons pe_int pa_nil)) (pa_cons (pe_tup (pa_cons pe_int pa_nil)) (pa_cons (pe_lst (pa_cons pe_int pa_nil)) (pa_cons (pe_tup (pa_cons pe_int (pa_cons pe_int pa_nil))) pa_nil)))))))))))))))))))))
      (pss_one (ps_ret (pe_call G_one (hr.mono (by omega)) (by rfl) T.g_one T.F_one.kp T.b_one .nil pass0 (pa_cons (pv 0) (pa_cons (pe_op op_cat (pv 1) (pe_lst (pa_cons (pe_tup (pa_cons pe_bl pa_nil)) (pa_cons (pe_tup (pa_cons pe_int (pa_cons pe_int pa_nil))) (pa_cons (pe_tup (pa_cons pe_int (pa_cons pe_int (pa_cons (pe_tup (pa_cons pe_int pa_nil)) pa_nil)))) (pa_cons (pe_tup (pa_cons (pe_tup (pa_cons pe_int pa_nil)) (pa_cons pe_int pa_nil))) (pa_cons (pe_tup (pa_cons (pe_tup pa_nil) (pa_cons (pe_tup pa_nil) pa_nil))) (pa_cons (pe_tup (pa_cons pe_int (pa_cons (pe_lst (pa_cons pe_int pa_nil)) pa_nil))) (pa_cons (pe_tup (pa_cons (pe_tup (pa_cons pe_int (pa_cons pe_int pa_nil))) (pa_cons (pe_tup (pa_cons pe_int (pa_cons pe_int pa_nil))) pa_nil))) pa_nil))))))))) pa_nil)))))), ?_⟩
    have a0 : DpAll K (off p H) [.non, .bl true, .bl false, .int 0, .int 1, .int 2, .int (-1), .int 7, .int (10 ^ 40), .str "", .str "0", .str "named", .str "wait"] (oddD.take 13) :=
      .cons .non (.cons (.bl _) (.cons (.bl _) (.cons (.int _) (.cons (.int _) (.cons (.int _) (.cons (.int _) (.cons (.int _) (.cons (.int _) (.cons (.str _) (.cons (.str _) (.cons (.str _) (.cons (.str _) .nil))))))))))))
    refine ⟨1, rfl, 10, 40, rfl, rfl, ⟨by decide, by decide, by decide⟩, by show 0 ≤ sizeLine; decide, fun t1 h1 => ?_⟩
    have D1 := D.put (o := .tup []) h1
    have b1 := dpAll_snoc (Keep.all (Keep.new h1) a0) (dt_tup (D.ne_new h1) h1 .nil)
    refine ⟨by show 0 ≤ sizeLine; decide, fun t2 h2 => ?_⟩
    have D2 := D1.put (o := .lst []) h2
    have b2 := dpAll_snoc (Keep.all (Keep.new h2) b1) (dt_lst (D1.ne_new h2) h2 .nil)
    refine ⟨by show 1 ≤ sizeLine; decide, fun t3 h3 => ?_⟩
    have D3 := D2.put (o := .tup [.int 0]) h3
    have b3 := dpAll_snoc (Keep.all (Keep.new h3) b2) (dt_tup (D2.ne_new h3) h3 (.cons (.int 0) .nil))
    refine ⟨by show 1 ≤ sizeLine; decide, fun t4 h4 => ?_⟩
    have D4 := D3.put (o := .tup [.int 1]) h4
    have b4 := dpAll_snoc (Keep.all (Keep.new h4) b3) (dt_tup (D3.ne_new h4) h4 (.cons (.int 1) .nil))
    refine ⟨by show 1 ≤ sizeLine; decide, fun t5 h5 => ?_⟩
    have D5 := D4.put (o := .lst [.int 0]) h5
    have b5 := dpAll_snoc (Keep.all (Keep.new h5) b4) (dt_lst (D4.ne_new h5) h5 (.cons (.int 0) .nil))
    refine ⟨by show 2 ≤ sizeLine; decide, fun t6 h6 => ?_⟩
    have D6 := D5.put (o := .tup [.int 0, .int 0]) h6
    have b6 := dpAll_snoc (Keep.all (Keep.new h6) b5) (dt_tup (D5.ne_new h6) h6 (.cons (.int 0) (.cons (.int 0) .nil)))
    refine ⟨by show 19 ≤ sizeLine; decide, fun la hla => ?_⟩
    have b7 := Keep.all (Keep.new (p := p) hla (o := .lst [.non, .bl true, .bl false, .int 0, .int 1, .int 2, .int (-1), .int 7, .int (10 ^ 40), .str "", .str "0", .str "named", .str "wait", .ref t1, .ref t2, .ref t3, .ref t4, .ref t5, .ref t6])) b6
    have K7 := (((((((Keep.new (p := p) (o := .tup []) h1).trans (Keep.new (o := .lst []) h2)).trans (Keep.new (o := .tup [.int 0]) h3)).trans (Keep.new (o := .tup [.int 1]) h4)).trans (Keep.new (o := .lst [.int 0]) h5)).trans (Keep.new (o := .tup [.int 0, .int 0]) h6)).trans (Keep.new (o := .lst [.non, .bl true, .bl false, .int 0, .int 1, .int 2, .int (-1), .int 7, .int (10 ^ 40), .str "", .str "0", .str "named", .str "wait", .ref t1, .ref t2, .ref t3, .ref t4, .ref t5, .ref t6]) hla))
    have w7 : Way K p n la _ H _ _ _ := ⟨D6.put hla, b7, upd_same, K7⟩
    refine ⟨_, rfl, _, rfl, by show 1 ≤ sizeLine; decide, fun t7 h7 => ?_⟩
    have w8 := (w7.step h7 (o := .tup [.bl true])).add (w7.tup h7 (.cons (.bl true) .nil))
    refine ⟨by show 2 ≤ sizeLine; decide, fun t8 h8 => ?_⟩
    have w9 := (w8.step h8 (o := .tup [.int 0, .int 1])).add (w8.tup h8 (.cons (.int 0) (.cons (.int 1) .nil)))
    refine ⟨by show 1 ≤ sizeLine; decide, fun t9 h9 => ?_⟩
    have w10 := w9.step h9 (o := .tup [.int 0])
    have i10 := w9.tup h9 (.cons (.int 0) .nil)
    refine ⟨by show 3 ≤ sizeLine; decide, fun t10 h10 => ?_⟩
    have w11 := (w10.step h10 (o := .tup [.int 0, .int 1, .ref t9])).add (w10.tup h10 (.cons (.int 0) (.cons (.int 1) (.cons i10 .nil))))
    refine ⟨by show 1 ≤ sizeLine; decide, fun t11 h11 => ?_⟩
    have w12 := w11.step h11 (o := .tup [.int 0])
    have i12 := w11.tup h11 (.cons (.int 0) .nil)
    refine ⟨by show 2 ≤ sizeLine; decide, fun t12 h12 => ?_⟩
    have w13 := (w12.step h12 (o := .tup [.ref t11, .int 0])).add (w12.tup h12 (.cons i12 (.cons (.int 0) .nil)))
    refine ⟨by show 0 ≤ sizeLine; decide, fun t13 h13 => ?_⟩
    have w14 := w13.step h13 (o := .tup [])
    have i14 := w13.tup h13 .nil
    refine ⟨by show 0 ≤ sizeLine; decide, fun t14 h14 => ?_⟩
    have w15 := w14.step h14 (o := .tup [])
    have i15 := Keep.dt (Keep.new h14 (o := .tup [])) i14
    have j15 := w14.tup h14 .nil
    refine ⟨by show 2 ≤ sizeLine; decide, fun t15 h15 => ?_⟩
    have w16 := (w15.step h15 (o := .tup [.ref t13, .ref t14])).add (w15.tup h15 (.cons i15 (.cons j15 .nil)))
    refine ⟨by show 1 ≤ sizeLine; decide, fun t16 h16 => ?_⟩
    have w17 := w16.step h16 (o := .lst [.int 1])
    have i17 := w16.lst h16 (.cons (.int 1) .nil)
    refine ⟨by show 2 ≤ sizeLine; decide, fun t17 h17 => ?_⟩
    have w18 := (w17.step h17 (o := .tup [.int 0, .ref t16])).add (w17.tup h17 (.cons (.int 0) (.cons i17 .nil)))
    refine ⟨by show 2 ≤ sizeLine; decide, fun t18 h18 => ?_⟩
    have w19 := w18.step h18 (o := .tup [.int 0, .int 1])
    have i19 := w18.tup h18 (.cons (.int 0) (.cons (.int 1) .nil))
    refine ⟨by show 2 ≤ sizeLine; decide, fun t19 h19 => ?_⟩
    have w20 := w19.step h19 (o := .tup [.int 1, .int 1])
    have i20 := Keep.dt (Keep.new h19 (o := .tup [.int 1, .int 1])) i19
    have j20 := w19.tup h19 (.cons (.int 1) (.cons (.int 1) .nil))
    refine ⟨by show 2 ≤ sizeLine; decide, fun t20 h20 => ?_⟩
    have w21 := (w20.step h20 (o := .tup [.ref t18, .ref t19])).add (w20.tup h20 (.cons i20 (.cons j20 .nil)))
    refine ⟨by show 7 ≤ sizeLine; decide, fun lb hlb => ?_⟩
    have w22 := w21.step hlb (o := .lst [.ref t7, .ref t8, .ref t10, .ref t12, .ref t15, .ref t17, .ref t20])
    refine ⟨la, lb, _, _, rfl, rfl, w22.la, upd_same, by show 26 ≤ sizeLine; decide, fun lc hlc => ?_⟩
    have w23 := w22.step hlc (o := .lst [.non, .bl true, .bl false, .int 0, .int 1, .int 2, .int (-1), .int 7, .int (10 ^ 40), .str "", .str "0", .str "named", .str "wait", .ref t1, .ref t2, .ref t3, .ref t4, .ref t5, .ref t6, .ref t7, .ref t8, .ref t10, .ref t12, .ref t15, .ref t17, .ref t20])
    refine ⟨p, lc, _, n, rfl, SqL.of upd_same, w22.dk.ne_new hlc, by show 0 < 26; decide, by show 26 < 100000; decide, w23.dk, by omega, fun i x J hx DJ KJ => ?_⟩
    obtain ⟨d, hd, xd⟩ := dpAll_get w23.al hx
    exact k x d J (KJ.dt xd) (odd_tiny d (List.mem_of_getElem? hd)) DJ (w23.kp.trans KJ)
end

/-! ### things bent -/
/-- small behind a bending -/
structure Bent (e : Nat) (d d' : PyData) : Prop where
  ni : nice (e + 1) d' = true
  we : wt d' ≤ 2 * wt d + 40
  de : d'.depth ≤ d.depth + 4
theorem Bent.tup {e : Nat} {ds es : List PyData} (h1 : niceAll (e + 1) es = true) (h2 : wtAll es ≤ 2 * wtAll ds + 40) (h3 : PyData.depthAll es ≤ PyData.depthAll ds + 4) : Bent e (.tuple ds) (.tuple es) :=
  ⟨by simpa only [nice] using h1, by simp only [wt]; omega, by simp only [PyData.depth]; omega⟩
def sp_bent (K : PySem.W.Frag) (M : Nat) : Sp := fun vs H Q _ => ∃ (p : Addr) (v : V) (d : PyData) (m : Int) (n e : Nat), vs = [.ref p, v, .int m] ∧ Dt K p H v d ∧ nice e d = true ∧ 140 ≤ e ∧ e < 1800 ∧ wt d < 100000 ∧ d.depth ≤ 40 ∧ 0 ≤ m ∧ m < (M : Int) ∧
  Deck K H p n ∧ n + 4 * M < 800000 ∧ ∀ (v' : V) (d' : PyData) (J : Hp) (n' : Nat), Dt K p J v' d' → Bent e d d' → n' ≤ n + 4 * M → Deck K J p n' → Keep p H J → Q v' J
section
variable {P : Program} {w : World} {K : PySem.W.Frag} {mg : Str → Option Value} {base : Heap}
theorem ok_bent (T : Txt K mg) : ∀ M : Nat, FnOk P w K mg base CX0 (3 + M) T.a_bent T.d_bent ["_law_deck_here", "_law_thing", "_law_deep"] (sp_bent K M)
  | 0 => by
    refine ⟨fun vs H Q E h => ?_, fun A outer s H args us vs Q E hr he hb hv h => ?_⟩
    · obtain ⟨p, v, d, m, n, e, rfl, _⟩ := h
      rfl
    · obtain ⟨p, v, d, m, n, e, rfl, _, _, _, _, _, _, m0, m1, _⟩ := h
      exact absurd m1 (by omega)
  | M + 1 => by
    have G_draw : FnOk P w K mg base CX0 1 T.a_draw T.d_draw ["_law_deck_here", "_law_many"] (sp_draw K) := ok_draw T
    have G_one : FnOk P w K mg base CX0 2 T.a_one T.d_one ["_law_deck_here", "_law_items"] (sp_one K) := ok_one T
    have G_odd : FnOk P w K mg base CX0 3 T.a_odd T.d_odd ["_law_deck_here"] (sp_odd K) := ok_odd T
    have G_bent := ok_bent T M
    refine Fun.ok (k := 3 + M) T.F_bent sc_bent (fun vs H Q E h => ?_) (fun cdv A outer s H vs Q E hr h => ?_)
    · obtain ⟨p, v, d, m, n, e, rfl, _⟩ := h
      rfl
    · obtain ⟨p, v, d, m, n, e, rfl, hd, hni, e0, e1, hw, hdep, m0, m1, D, hn, k⟩ := h
      refine ⟨_, (pss_cons (ps_if (pt_cut (PW.pt (pw_or (pt_not (pt_val (pe_callB (id := "isinstance") (call_isD "tuple" (by decide)) (by rfl) T.m_isinstance (by decide +kernel) (pa_cons (pv 1) (pa_cons (pe_bltn (v := .ty "tuple") (by rfl) T.m_tuple (by decide +kernel) rfl) pa_nil))))) (pw_or (pt_cmpR (op_eqD hr.units) (pv 1) (pe_tup pa_nil) (nomark _)) (pw_or (pt_cmpR op_eq (pv 2) pe_int (nomark _)) (pw_or1 (pt_cmpR op_eq (pe_call G_draw (hr.mono (by omega)) (by rfl) T.g_draw T.F_draw.kp T.b_draw .nil pass0 (pa_cons (pv 0) (pa_cons pe_int pa_nil))) pe_int (nomark _))))))))
        (pss_cons (ps_if (pt_cut (PW.pt (pw_and (pt_val (pe_callB (id := "isinstance") (call_isD "int" (by decide)) (by rfl) T.m_isinstance (by decide +kernel) (pa_cons (pv 1) (pa_cons (pe_bltn (v := .ty "int") (by rfl) T.m_int (by decide +kernel) rfl) pa_nil)))) (pw_and (pt_not (pt_val (pe_callB (id := "isinstance") (call_isD "bool" (by decide)) (by rfl) T.m_isinstance (by decide +kernel) (pa_cons (pv 1) (pa_cons (pe_bltn (v := .ty "bool") (by rfl) T.m_bool (by decide +kernel) rfl) pa_nil))))) (pw_and1 (pt_cmpR op_eq (pe_call G_draw (hr.mono (by omega)) (by rfl) T.g_draw T.F_draw.kp T.b_draw .nil pass0 (pa_cons (pv 0) (pa_cons pe_int pa_nil))) pe_int (nomark _)))))))
        (pss_one (ps_ret (pe_op op_add (pv 1) (pe_call G_one (hr.mono (by omega)) (by rfl) T.g_one T.F_one.kp T.b_one .nil pass0 (pa_cons (pv 0) (pa_cons (pe_lst (pa_cons pe_int (pa_cons (pe_un un_neg pe_int) (pa_cons pe_int (pa_cons (pe_op op_sub pe_int (pv 1)) pa_nil))))) pa_nil))))))
        pss_nil)
      (pss_one (ps_ret (pe_call G_odd (hr.mono (by omega)) (by rfl) T.g_odd T.F_odd.kp T.b_odd .nil pass0 (pa_cons (pv 0) pa_nil)))))
        pss_nil)
      (pss_cons (ps_par (i := 3) (j := 4) (by rfl) sc_bent.nd rfl rfl (by decide) rfl rfl (pa_cons (pe_call G_draw (hr.mono (by omega)) (by rfl) T.g_draw T.F_draw.kp T.b_draw .nil pass0 (pa_cons (pv 0) (pa_cons (pe_callB (id := "len") call_len_seq (by rfl) T.m_len (by decide +kernel) (pa_cons (pv 1) pa_nil)) pa_nil))) (pa_cons (pe_call G_draw (hr.mono (by omega)) (by rfl) T.g_draw T.F_draw.kp T.b_draw .nil pass0 (pa_cons (pv 0) (pa_cons pe_int pa_nil))) pa_nil)) (by rfl))
      (pss_cons (ps_if (pt_cmpR op_eq (pv 4) pe_int (nomark _))
        (pss_one (ps_ret (pe_op op_catS (pe_slice sl_tupS (pv 1) po_none (po_some (pv 3))) (pe_slice sl_tupS (pv 1) (po_some (pe_op op_add (pv 3) pe_int)) po_none))))
        pss_nil)
      (pss_cons (ps_if (pt_cmpR op_eq (pv 4) pe_int (nomark _))
        (pss_one (ps_ret (pe_op op_catS (pe_op op_catS (pe_slice sl_tupS (pv 1) po_none (po_some (pv 3))) (pe_tup (pa_cons (pe_ix ix_tup (pv 1) (pv 3) (fun _ _ => rfl)) pa_nil))) (pe_slice sl_tupS (pv 1) (po_some (pv 3)) po_none))))
        pss_nil)
      (pss_cons (ps_if (pt_cmpR op_eq (pv 4) pe_int (nomark _))
        (pss_one (ps_ret (pe_revT (pv 1))))
        pss_nil)
      (pss_cons (ps_if (pt_cmpR op_eq (pv 4) pe_int (nomark _))
        (pss_one (ps_ret (pe_callTy (T := "list") call_list_of (by rfl) T.m_list (by decide +kernel) (pa_cons (pv 1) pa_nil))))
        pss_nil)
      (pss_one (ps_ret (pe_op op_catS (pe_op op_catS (pe_slice sl_tupS (pv 1) po_none (po_some (pv 3))) (pe_tup (pa_cons (pe_call G_bent (hr.mono (by omega)) (by rfl) T.g_bent T.F_bent.kp T.b_bent .nil pass0 (pa_cons (pv 0) (pa_cons (pe_ix ix_tup (pv 1) (pv 3) (fun _ _ => rfl)) (pa_cons (pe_op op_sub (pv 2) pe_int) pa_nil)))) pa_nil))) (pe_slice sl_tupS (pv 1) (po_some (pe_op op_add (pv 3) pe_int)) po_none)))))))))), ?_⟩
      have shp : SeqAt.shaped d = true := nice_shaped hni (by omega)
      -- nothing to go into
      refine ⟨fun b J => (b = false → ∃ ds, d = .tuple ds ∧ ds ≠ [] ∧ 0 < m) ∧ ∃ n1, n1 ≤ n + 1 ∧ Deck K J p n1 ∧ Keep p H J, ?_, ?_⟩
      · refine ⟨_, rfl, v, d, rfl, dpSame off_in d v hd, _, rfl, ?_⟩
        refine ite2 (fun _ => ⟨(fun z => nomatch z), n, by omega, D, Keep.refl p H⟩) (fun ht => ?_)
        obtain ⟨ds, rfl⟩ := isA_tup (d := d) (by simpa using ht)
        refine ⟨_, rfl, by show 0 ≤ sizeLine; decide, fun q hq => ?_⟩
        have kq : Keep p H (upd H q (.tup [])) := Keep.new hq
        have Dq := D.put (o := .tup []) hq
        refine ⟨.tuple ds, .tuple [], dpSame off_in _ v (kq.dt hd), .tup (SqT.of upd_same) .nil, shp, by decide, _, rfl, ?_⟩
        refine ite2 (fun _ => ⟨(fun z => nomatch z), n, by omega, Dq, kq⟩) (fun hne => ?_)
        have hds : ds ≠ [] := fun z => hne (by rw [z]; simp [PyData.eqv, PyData.eqvAll])
        refine ⟨_, rfl, rfl, _, rfl, ?_⟩
        refine ite2 (fun _ => ⟨(fun z => nomatch z), n, by omega, Dq, kq⟩) (fun hm => ?_)
        have mp : 0 < m := by
          have : ¬ m = 0 := fun z => hm (decide_eq_true (by rw [z]))
          omega
        refine ⟨_, rfl, p, 7, n, rfl, by decide, by decide, Dq, by omega, fun r J _ _ DJ KJ => ⟨rfl, _, rfl, fun _ => ⟨ds, rfl, hds, mp⟩, n + 1, Nat.le_refl _, DJ, kq.trans KJ⟩⟩
      · rintro b H1 ⟨hb, n1, hn1, D1, K1⟩
        have hd1 := K1.dt hd
        cases b with
        | true =>
          refine iteT ?_
          refine ⟨fun b J => (b = true → ∃ i, d = .int i) ∧ ∃ n2, n2 ≤ n1 + 1 ∧ Deck K J p n2 ∧ Keep p H J, ?_, ?_⟩
          · refine ⟨_, rfl, v, d, rfl, dpSame off_in d v hd1, _, rfl, ?_⟩
            refine ite2 (fun hi => ?_) (fun _ => ⟨(fun z => nomatch z), n1, by omega, D1, K1⟩)
            refine ⟨_, rfl, v, d, rfl, dpSame off_in d v hd1, _, rfl, ?_⟩
            refine ite2 (fun hnb => ?_) (fun _ => ⟨(fun z => nomatch z), n1, by omega, D1, K1⟩)
            refine ⟨_, rfl, p, 2, n1, rfl, by decide, by decide, D1, by omega, fun r J _ _ DJ KJ => ⟨rfl, _, rfl, fun _ => isA_int hi (by simpa using hnb), n1 + 1, Nat.le_refl _, DJ, K1.trans KJ⟩⟩
          · rintro b H2 ⟨hb2, n2, hn2, D2, K2⟩
            cases b with
            | true =>
              obtain ⟨i, rfl⟩ := hb2 rfl
              have hv : v = .int i := by cases hd; rfl
              subst hv
              have hi : i.natAbs < 2 ^ e := by simpa [nice] using hni
              have p2 : 2 ≤ 2 ^ e := Nat.le_trans (by decide : 2 ≤ 2 ^ 1) (Nat.pow_le_pow_right (by decide) (by omega))
              have pe : 2 ^ (e + 1) = 2 ^ e * 2 := Nat.pow_succ 2 e
              refine iteT ⟨_, rfl, _, rfl, 1, rfl, _, rfl, _, _, rfl, rfl, by show 4 ≤ sizeLine; decide, fun l hl => ?_⟩
              refine ⟨p, l, _, n2, rfl, SqL.of upd_same, D2.ne_new hl, by show 0 < 4; decide, by show 4 < 100000; decide, D2.put hl, by omega, fun j x J hx DJ KJ => ?_⟩
              obtain ⟨y, rfl, hy⟩ : ∃ y : Int, x = .int y ∧ (y.natAbs ≤ 2 ∨ y.natAbs ≤ i.natAbs) := by
                have m := List.mem_of_getElem? hx
                simp only [List.mem_cons, List.not_mem_nil, or_false] at m
                rcases m with m | m | m | m
                · exact ⟨_, m, .inl (by decide)⟩
                · exact ⟨_, m, .inl (by decide)⟩
                · exact ⟨_, m, .inl (by decide)⟩
                · exact ⟨_, m, .inr (by omega)⟩
              refine ⟨_, _, rfl, rfl, k _ (.int (i + y)) J (n2 + 1) (.int _) ⟨?_, by simp only [wt]; omega, by simp only [PyData.depth]; omega⟩ (by omega) DJ ((K2.trans (Keep.new hl)).trans KJ)⟩
              simp only [nice, decide_eq_true_eq]
              rw [pe]
              omega
            | false =>
              refine iteF ⟨_, rfl, p, n2, rfl, D2, by omega, fun v' d' J hd' td DJ KJ => ?_⟩
              exact k v' d' J (n2 + 1) hd' ⟨nice_more (by omega) d' td.ni, by have := td.we; omega, by have := td.de; omega⟩ (by omega) DJ (K2.trans KJ)
        | false =>
          obtain ⟨ds, rfl, hds, mp⟩ := hb rfl
          obtain ⟨a, xs, rfl, hx, hal⟩ := hd1.get
          have hlen : xs.length = ds.length := dpAll_len hal
          have hwA : wtAll ds < 100000 := by simp only [wt] at hw; omega
          have hlw := wtAll_len ds
          have l0 : 0 < ds.length := List.length_pos_iff.mpr hds
          have hnA : niceAll e ds = true := by simpa only [nice] using hni
          have hnA1 : niceAll (e + 1) ds = true := nice_moreAll (by omega) ds hnA
          have hdA : PyData.depthAll ds + 1 ≤ 40 := by simpa only [PyData.depth] using hdep
          have szl : 2 * ds.length + 10 ≤ sizeLine := Nat.le_trans (by omega : 2 * ds.length + 10 ≤ 200010) (by decide)
          refine iteF ⟨_, rfl, _, rfl, a, xs, rfl, .inr hx, p, _, n1, rfl, by omega, by omega, D1, by omega, fun r J r0 r1 DJ KJ => ?_⟩
          obtain ⟨j, rfl⟩ : ∃ j : Nat, r = (j : Int) := ⟨r.toNat, (Int.toNat_of_nonneg r0).symm⟩
          have hj : j < ds.length := by omega
          refine ⟨_, rfl, p, 10, n1 + 1, rfl, by decide, by decide, DJ, by omega, fun z H2 z0 z1 D2 KJ2 => ?_⟩
          have K12 : Keep p H1 H2 := KJ.trans KJ2
          have K2 : Keep p H H2 := K1.trans K12
          obtain ⟨_, _, _, _, hp1, _⟩ := id D1
          have hx2 : SqT K H2 a xs := sameT off_in (sameT K12.s (tup_off hp1 hx))
          have hal2 := K12.all hal
          obtain ⟨dj, hdj⟩ : ∃ dj, ds[j]? = some dj := ⟨_, List.getElem?_eq_getElem hj⟩
          have sp := split_at hdj
          have wsp : wtAll ds = wtAll (ds.take j) + (wt dj + wtAll (ds.drop (j + 1))) := by
            have z := congrArg wtAll sp
            rw [wtAll_append] at z
            simpa only [wtAll] using z
          have nsp : niceAll (e + 1) (ds.take j) = true ∧ niceAll (e + 1) (ds.drop (j + 1)) = true := by
            have z := hnA1
            rw [sp, niceAll_append, Bool.and_eq_true] at z
            simp only [niceAll, Bool.and_eq_true] at z
            exact ⟨z.1, z.2.2⟩
          have ndj : nice e dj = true := niceAll_iff.mp hnA dj (List.mem_of_getElem? hdj)
          have dsp : PyData.depthAll ds = max (PyData.depthAll (ds.take j)) (max dj.depth (PyData.depthAll (ds.drop (j + 1)))) := by
            have z := congrArg PyData.depthAll sp
            rw [depthAll_append] at z
            simpa only [PyData.depthAll] using z
          have ct : cutV xs none (some (j : Int)) = xs.take j := cut_to xs j (by omega)
          have cf : cutV xs (some ((j : Int) + 1)) none = xs.drop (j + 1) := cut_from xs (j + 1) (by omega)
          have cf0 : cutV xs (some (j : Int)) none = xs.drop j := cut_from xs j (by omega)
          have tl : (xs.take j).length ≤ ds.length := by rw [List.length_take]; omega
          have dl : ∀ i, (xs.drop i).length ≤ ds.length := fun i => by rw [List.length_drop]; omega
          refine ⟨_, _, rfl, ?_⟩
          -- one left out
          refine ⟨_, rfl, rfl, _, rfl, ite2 (fun _ => ?_) (fun _ => ?_)⟩
          · refine ⟨_, rfl, _, rfl, _, rfl, a, xs, rfl, hx2, fun t1 J1 c1 s1 => ?_⟩
            refine ⟨_, rfl, _, rfl, _, _, rfl, rfl, _, rfl, a, xs, rfl, sameT s1 hx2, fun t2 J2 c2 s2 => ?_⟩
            rw [ct] at c1
            rw [cf] at c2
            have dl' := dl (j + 1)
            refine ⟨t1, t2, _, _, rfl, rfl, sameT s2 c1, c2, by omega, fun t J3 c3 s3 => ?_⟩
            have S3 := (s1.trans s2).trans s3
            have KS : Keep p H2 J3 := Keep.of_same S3
            refine k _ _ J3 (n1 + 2) (dt_of (D2.of_same S3) c3 (dpAll_append (dpAll_take j (KS.all hal2)) (dpAll_drop (j + 1) (KS.all hal2)))) (Bent.tup ?_ ?_ ?_) (by omega) (D2.of_same S3) (K2.trans KS)
            · rw [niceAll_append, nsp.1, nsp.2]
              rfl
            · rw [wtAll_append]
              omega
            · rw [depthAll_append]
              omega
          -- one told twice
          refine ⟨_, rfl, rfl, _, rfl, ite2 (fun _ => ?_) (fun _ => ?_)⟩
          · obtain ⟨xj, hxj⟩ : ∃ xj, xs[j]? = some xj := ⟨_, List.getElem?_eq_getElem (by omega)⟩
            refine ⟨_, rfl, _, rfl, _, rfl, a, xs, rfl, hx2, fun t1 J1 c1 s1 => ?_⟩
            refine ⟨_, rfl, _, rfl, a, xs, (j : Int), xj, rfl, rfl, sameT s1 hx2, atI_nat hxj, by show 1 ≤ sizeLine; decide, fun t2 h2 => ?_⟩
            have s2 : Same J1 (upd J1 t2 (.tup [xj])) := same_new h2
            rw [ct] at c1
            refine ⟨t1, t2, _, _, rfl, rfl, sameT s2 c1, SqT.of upd_same, by rw [List.length_singleton]; omega, fun t3 J3 c3 s3 => ?_⟩
            refine ⟨_, rfl, _, rfl, _, rfl, a, xs, rfl, sameT ((s1.trans s2).trans s3) hx2, fun t4 J4 c4 s4 => ?_⟩
            rw [cf0] at c4
            have dl' := dl j
            refine ⟨t3, t4, _, _, rfl, rfl, sameT s4 c3, c4, by rw [List.length_append, List.length_singleton]; omega, fun t J5 c5 s5 => ?_⟩
            have S5 := ((((s1.trans s2).trans s3).trans s4).trans s5)
            have KS : Keep p H2 J5 := Keep.of_same S5
            have al5 := KS.all hal2
            obtain ⟨dj', hdj', xdj⟩ := dpAll_get al5 hxj
            have ej : dj' = dj := Option.some.inj (hdj'.symm.trans hdj)
            rw [ej] at xdj
            have dr : ds.drop j = dj :: ds.drop (j + 1) := by
              rw [← List.getElem_cons_drop hj]
              exact congrArg (· :: _) (List.getElem?_eq_some_iff.mp hdj).2
            have dd := al5
            refine k _ _ J5 (n1 + 2) (dt_of (D2.of_same S5) c5 (dpAll_append (dpAll_append (dpAll_take j al5) (.cons xdj .nil)) (dpAll_drop j al5))) (Bent.tup ?_ ?_ ?_) (by omega) (D2.of_same S5) (K2.trans KS)
            · rw [niceAll_append, niceAll_append, dr, nsp.1]
              simp only [niceAll, nsp.2, nice_more (by omega : e ≤ e + 1) dj ndj, Bool.and_self]
            · rw [wtAll_append, wtAll_append, dr]
              simp only [wtAll]
              omega
            · rw [depthAll_append, depthAll_append, dr]
              simp only [PyData.depthAll]
              omega
          -- turned about
          refine ⟨_, rfl, rfl, _, rfl, ite2 (fun _ => ?_) (fun _ => ?_)⟩
          · refine ⟨_, rfl, a, xs, rfl, hx2, fun t ht => ?_⟩
            have KS : Keep p H2 (upd H2 t (.tup xs.reverse)) := Keep.new ht
            refine k _ _ _ (n1 + 2) (dt_of (D2.put ht) (SqT.of upd_same) (dpAll_reverse (KS.all hal2))) (Bent.tup (niceAll_reverse hnA1) ?_ ?_) (by omega) (D2.put ht) (K2.trans KS)
            · rw [wtAll_reverse]
              omega
            · rw [depthAll_reverse]
              omega
          -- a list
          refine ⟨_, rfl, rfl, _, rfl, ite2 (fun _ => ?_) (fun _ => ?_)⟩
          · refine ⟨_, rfl, a, xs, rfl, .inr hx2, fun t ht => ?_⟩
            refine k _ (.list ds) _ (n1 + 2) (dt_lst (D2.ne_new ht) ht hal2) ⟨by simpa only [nice] using hnA1, by simp only [wt]; omega, by simp only [PyData.depth]; omega⟩ (by omega) (D2.put ht) (K2.trans (Keep.new ht))
          -- one bent in its turn
          · obtain ⟨xj, hxj⟩ : ∃ xj, xs[j]? = some xj := ⟨_, List.getElem?_eq_getElem (by omega)⟩
            refine ⟨_, rfl, _, rfl, _, rfl, a, xs, rfl, hx2, fun t1 J1 c1 s1 => ?_⟩
            have D3 := D2.of_same s1
            have K3 : Keep p H2 J1 := Keep.of_same s1
            obtain ⟨dj', hdj', xdj⟩ := dpAll_get (K3.all hal2) hxj
            have ej : dj' = dj := Option.some.inj (hdj'.symm.trans hdj)
            rw [ej] at xdj
            rw [ct] at c1
            refine ⟨_, rfl, _, rfl, _, rfl, a, xs, (j : Int), xj, rfl, rfl, sameT s1 hx2, atI_nat hxj, _, rfl, _, _, rfl, rfl, ?_⟩
            refine ⟨p, xj, dj, m - 1, n1 + 2, e, rfl, xdj, ndj, e0, e1, by omega, by omega, by omega, by omega, D3, by omega, fun v' d' J2 n' hd' bd hn' D4 K4 => ?_⟩
            refine ⟨by show 1 ≤ sizeLine; decide, fun t2 h2 => ?_⟩
            obtain ⟨_, _, _, _, hp3, _⟩ := id D3
            have c1' : SqT K J2 t1 (xs.take j) := sameT off_in (sameT K4.s (tup_off hp3 c1))
            have hx4 : SqT K J2 a xs := sameT off_in (sameT K4.s (tup_off hp3 (sameT s1 hx2)))
            have s2 : Same J2 (upd J2 t2 (.tup [v'])) := same_new h2
            refine ⟨t1, t2, _, _, rfl, rfl, sameT s2 c1', SqT.of upd_same, by rw [List.length_singleton]; omega, fun t3 J3 c3 s3 => ?_⟩
            refine ⟨_, rfl, _, rfl, _, _, rfl, rfl, _, rfl, a, xs, rfl, sameT (s2.trans s3) hx4, fun t4 J4 c4 s4 => ?_⟩
            rw [cf] at c4
            have dl' := dl (j + 1)
            refine ⟨t3, t4, _, _, rfl, rfl, sameT s4 c3, c4, by rw [List.length_append, List.length_singleton]; omega, fun t J5 c5 s5 => ?_⟩
            have S5 := (((s2.trans s3).trans s4).trans s5)
            have KS : Keep p J2 J5 := Keep.of_same S5
            have al5 := KS.all (K4.all (K3.all hal2))
            refine k _ _ J5 n' (dt_of (D4.of_same S5) c5 (dpAll_append (dpAll_append (dpAll_take j al5) (.cons (KS.dt hd') .nil)) (dpAll_drop (j + 1) al5))) (Bent.tup ?_ ?_ ?_) (by omega) (D4.of_same S5) (((K2.trans K3).trans K4).trans KS)
            · rw [niceAll_append, niceAll_append, nsp.1, nsp.2]
              simp only [niceAll, bd.ni, Bool.and_self]
            · have := bd.we
              rw [wtAll_append, wtAll_append]
              simp only [wtAll]
              omega
            · have := bd.de
              rw [depthAll_append, depthAll_append]
              simp only [PyData.depthAll]
              omega
end

/-! ### the places at which a row of numbers changes -/
def changesP (ns : List Int) (i : Nat) : Bool := ns[i + 1]? != ns[i]?
def changesI (ns : List Int) : List Int := ((List.range (ns.length - 1)).filter (changesP ns)).map fun i : Nat => 1 + (i : Int)

/-! ### the law's own word on changes and rest -/
def gapsB (r : Int) (cs : List Int) : Bool := (cs.zip (cs.drop 1)).all fun p => !decide (p.2 - p.1 < r)
def keptB (ns : List Int) (r : Int) : Bool := gapsB r (changesI ns)
def sp_kept (K : PySem.W.Frag) : Sp := fun vs H Q _ => ∃ (a : Addr) (r : Int) (ns : List Int), vs = [.ref a, .int r] ∧ SqA K H a (ns.map V.int) ∧ ns.length ≤ 4000 ∧ ∀ J, Same H J → Q (.bl (keptB ns r)) J
theorem small1000' {n : Nat} (h : n ≤ 5000) : n < sizeLine := Nat.lt_of_le_of_lt h (by decide)
theorem int_nat {ns : List Int} {i : Nat} {z : Int} (h : ns[i]? = some z) : atI (ns.map V.int) (i : Int) = some (.int z) := by
  refine atI_nat ?_
  rw [List.getElem?_map, h]
  rfl
theorem cut_one (xs : List V) : cutV xs (some 1) none = xs.drop 1 := by
  cases xs with
  | nil => rfl
  | cons x r => exact cut_from (x :: r) 1 (by rw [List.length_cons]; omega)
/-- the first i places at which it changes -/
def chg (ns : List Int) (i : Nat) : List Int := ((List.range i).filter (changesP ns)).map fun i : Nat => 1 + (i : Int)
theorem chg_len (ns : List Int) (i : Nat) : (chg ns i).length ≤ i := by
  unfold chg
  rw [List.length_map]
  exact Nat.le_trans (List.length_filter_le _ _) (by rw [List.length_range]; exact Nat.le_refl _)
theorem chg_succ (ns : List Int) (i : Nat) : chg ns (i + 1) = if changesP ns i = true then chg ns i ++ [1 + (i : Int)] else chg ns i := by
  unfold chg
  rw [List.range_succ, List.filter_append, List.map_append]
  split
  · rename_i h
    simp [h]
  · rename_i h
    simp [h]
theorem changesP_at {ns : List Int} {i : Nat} {x y : Int} (hx : ns[i + 1]? = some x) (hy : ns[i]? = some y) : changesP ns i = (x != y) := by
  unfold changesP
  rw [hx, hy]
  rfl
section
variable {P : Program} {w : World} {K : PySem.W.Frag} {mg : Str → Option Value} {base : Heap}
theorem ok_kept (T : Txt K mg) : FnOk P w K mg base CX0 1 T.a_rest_kept T.d_rest_kept ["_law_course_here", "_law_rest"] (sp_kept K) := by
  refine T.F_rest_kept.ok sc_rest_kept (fun vs H Q E h => ?_) (fun cdv A outer s H vs Q E hr h => ?_)
  · obtain ⟨a, r, ns, rfl, _⟩ := h
    rfl
  · obtain ⟨a, r, ns, rfl, hx, hl, k⟩ := h
    refine ⟨_, (pss_cons (ps_setLc (i := 2) (own := [("_law_moment", 3)]) (g := gName 3) (by rfl) sc_rest_kept.nd rfl rfl (sw_true rfl rfl rfl (by decide +kernel)) (pi_range2 (by rfl) T.m_range (pa_cons pe_int (pa_cons (pe_callB (id := "len") call_len_seq (by rfl) T.m_len (by decide +kernel) (pa_cons (pv 0) pa_nil)) pa_nil))) (blkOk_by (own := [("_law_moment", 3)]) (N := ["_law_course_here", "_law_rest", "_law_some", "_law_moment", "_law_one_here", "_law_other"]) (sc := defScope s_rest_kept) (by decide +kernel)) (fun _ _ _ _ _ => (pg_name (i := 3) sc_rest_kept.nd rfl (Or.inl rfl))) (fun _ _ _ _ _ => (pts_one (pt_cmpR op_ne (pe_ix (ixSK K rfl) (pv 0) (pv 3) (fun _ _ => rfl)) (pe_ix (ixSK K rfl) (pv 0) (pe_op op_sub (pv 3) pe_int) (fun _ _ => rfl)) (nomark _)))) (fun _ _ _ _ _ => (pv 3)))
      (pss_one (ps_ret (pe_cmpR (op_eqD hr.units) (pe_lc (own := [("_law_one_here", 4), ("_law_other", 5)]) (g := gTup K 2 (gCons (gName 4) (gCons (gName 5) gNil))) (by rfl) sc_rest_kept.nd (pi_zip (by rfl) T.m_zip (pa_cons (pv 2) (pa_cons (pe_slice sl_list (pv 2) (po_some pe_int) po_none) pa_nil))) (blkOk_by (own := [("_law_one_here", 4), ("_law_other", 5)]) (N := ["_law_course_here", "_law_rest", "_law_some", "_law_moment", "_law_one_here", "_law_other"]) (sc := defScope s_rest_kept) (by decide +kernel)) (fun _ _ _ _ _ => (pg_pairK K (i := 4) (j := 5) rfl rfl sc_rest_kept.nd rfl (Or.inl rfl) rfl (Or.inl rfl))) (fun _ _ _ _ _ => (pts_one (pt_cmpR op_lt (pe_op op_sub (pv 5) (pv 4)) (pv 1) (nomark _)))) (fun _ _ _ _ _ => pe_int)) (pe_lst pa_nil) (nomark _))))), ?_⟩
    have hl' : (ns.map V.int).length = ns.length := List.length_map ..
    refine ⟨_, rfl, a, _, rfl, hx, ?_⟩
    refine ⟨1, _, rfl, ⟨by decide, by decide, by omega, by omega⟩, fun F hF => ?_⟩
    rw [hl']
    refine lc_range (lo := 1) (n := ((ns.length : Int) - 1).toNat) (fun i J => J = upd H F (.lst ((chg ns i).map V.int))) rfl ?_ ?_
    · rintro i J hi rfl
      have hx' := hx.same (same_new (o := .lst ((chg ns i).map V.int)) hF)
      refine ⟨rfl, ?_⟩
      have g1 : ns[i + 1]? = some ns[i + 1] := List.getElem?_eq_getElem (by omega)
      have g0 : ns[i]? = some ns[i] := List.getElem?_eq_getElem (by omega)
      refine ⟨_, rfl, _, rfl, rIx_of hx' (show atI (ns.map V.int) (1 + (i : Int)) = _ by rw [show (1 + (i : Int)) = ((i + 1 : Nat) : Int) by omega]; exact int_nat g1) ?_⟩
      refine ⟨_, rfl, _, rfl, _, _, rfl, rfl, rIx_of hx' (show atI (ns.map V.int) (1 + (i : Int) - 1) = _ by rw [show (1 + (i : Int) - 1) = (i : Int) by omega]; exact int_nat g0) ?_⟩
      refine ⟨rfl, _, rfl, ?_⟩
      have es := chg_succ ns i
      have le := chg_len ns i
      rw [show (!decide (V.int ns[i + 1] = V.int ns[i])) = changesP ns i by rw [dec_int, changesP_at g1 g0]; rfl]
      refine ite2 (fun e => ?_) (fun e => ?_)
      · rw [if_pos e] at es
        refine ⟨_, rfl, _, upd_same, small1000' (by rw [List.length_map]; omega), ?_⟩
        rw [upd_upd, es, List.map_append]
        rfl
      · rw [if_neg e] at es
        rw [es]
    · rintro J rfl
      have ec : chg ns ((ns.length : Int) - 1).toNat = changesI ns := by
        have : ((ns.length : Int) - 1).toNat = ns.length - 1 := by omega
        rw [this]
        rfl
      rw [ec]
      have s1 : Same H (upd H F (.lst ((changesI ns).map V.int))) := same_new hF
      have cl : (changesI ns).length ≤ ns.length := Nat.le_trans (chg_len ns (ns.length - 1)) (by omega)
      refine ⟨_, rfl, _, rfl, 1, rfl, F, _, rfl, SqL.of upd_same, fun c hc => ?_⟩
      have e1 : cutV ((changesI ns).map V.int) (some 1) none = ((changesI ns).drop 1).map V.int := by rw [cut_one, List.map_drop]
      have e2 : keptB ns r = gapsB r (changesI ns) := rfl
      rw [e2] at k
      generalize changesI ns = cs at *
      have hFc : F ≠ c := ne_of_none upd_same hc
      have s2 := s1.trans (same_new (o := .lst (cutV (cs.map V.int) (some 1) none)) hc)
      generalize hH2 : upd (upd H F (.lst (cs.map V.int))) c (.lst (cutV (cs.map V.int) (some 1) none)) = H2 at *
      have hF2 : H2 F = some (.lst (cs.map V.int)) := by rw [← hH2, upd_ne hFc]; exact upd_same
      have hc2 : H2 c = some (.lst ((cs.drop 1).map V.int)) := by rw [← hH2, upd_same, e1]
      refine ⟨F, c, cs.map V.int, (cs.drop 1).map V.int, rfl, SqL.of hF2, SqL.of hc2, fun D hD => ?_⟩
      let f : Int × Int → Bool := fun p => !decide (p.2 - p.1 < r)
      have zl : (cs.zip (cs.drop 1)).length = min (cs.map V.int).length ((cs.drop 1).map V.int).length := by rw [List.length_zip, List.length_map, List.length_map]
      refine lc_it (walk_zip zl) (fun i J => Same H2 J ∧ ∃ n, J D = some (.lst ((List.replicate n (1 : Int)).map V.int)) ∧ n ≤ i ∧ (n = 0 ↔ ((cs.zip (cs.drop 1)).take i).all f = true)) ⟨same_new hD, 0, upd_same, Nat.le_refl _, by simp⟩
        (fun i J _ ⟨S, _⟩ => ⟨SqL.of (S _ _ hF2), SqL.of (S _ _ hc2)⟩) ?_ ?_
      · rintro i v J J' hi ⟨S, n, hDn, hn, iff⟩ ⟨Tp, x', y', rfl, hT, rfl, hx', hy'⟩
        have ei : (cs.zip (cs.drop 1))[i]? = some ((cs.zip (cs.drop 1))[i]) := List.getElem?_eq_getElem hi
        generalize (cs.zip (cs.drop 1))[i] = pr at ei
        obtain ⟨u, y⟩ := pr
        have ez := List.getElem?_zip_eq_some.mp ei
        have hx' : (cs.map V.int)[i]? = some x' := hx'
        have hy' : ((cs.drop 1).map V.int)[i]? = some y' := hy'
        rw [List.getElem?_map, ez.1] at hx'
        rw [List.getElem?_map, ez.2] at hy'
        cases hx'
        cases hy'
        have TD : Tp ≠ D := (ne_of_none hDn hT).symm
        have S' : Same H2 (upd J Tp (.tup [.int u, .int y])) := S.trans (same_new hT)
        have tk : (cs.zip (cs.drop 1)).take (i + 1) = (cs.zip (cs.drop 1)).take i ++ [(u, y)] := by rw [List.take_add_one, ei]; rfl
        refine ⟨Tp, _, rfl, SqT.of upd_same, rfl, _, _, rfl, _, _, rfl, rfl, rfl, ?_⟩
        refine ⟨_, rfl, _, rfl, _, _, rfl, rfl, _, rfl, _, _, rfl, rfl, _, rfl, ?_⟩
        refine ite2 (fun e => ?_) (fun e => ?_)
        · refine ⟨_, by rw [upd_ne TD.symm]; exact hDn, small1000' (by rw [List.length_map, List.length_replicate]; rw [zl, List.length_map] at hi; omega), fun b o hb => ?_, n + 1, ?_, by omega, ?_⟩
          · rw [upd_ne (ne_of_none hb hD)]
            exact S' b o hb
          · rw [upd_same, List.replicate_succ', List.map_append]
            rfl
          · rw [tk, List.all_append]
            simp only [List.all_cons, List.all_nil, Bool.and_true, f, e]
            simp
        · refine ⟨S', n, by rw [upd_ne TD.symm]; exact hDn, by omega, ?_⟩
          rw [tk, List.all_append, iff]
          have e' : decide (y - u < r) = false := by simpa using e
          simp only [List.all_cons, List.all_nil, Bool.and_true, f, e', Bool.not_false]
      · rintro J ⟨S, n, hDn, hn, iff⟩
        refine ⟨Nat.zero_le _, fun q hq => ?_⟩
        have sq : Same J (upd J q (.lst [])) := same_new hq
        refine ⟨.list ((List.replicate n (1 : Int)).map PyData.int), .list [], .lst (SqL.of (sq _ _ hDn)) (ints_dp _), .lst (SqL.of upd_same) .nil, ints_shaped _, by decide, ?_⟩
        rw [ints_nil]
        have e3 : (List.replicate n (1 : Int)).isEmpty = gapsB r cs := by
          rw [List.take_of_length_le (Nat.le_refl _)] at iff
          unfold gapsB
          rw [Bool.eq_iff_iff, ← iff]
          simp
        rw [e3]
        exact k _ ((s2.trans S).trans sq)
end

/-! ### a drawn course -/
theorem atI_last {α : Type} {xs : List α} {v : α} (h : xs.getLast? = some v) : atI xs (-1) = some v := by
  unfold atI ixN
  have h0 : 0 < xs.length := by
    cases xs with
    | nil => cases h
    | cons _ _ => simp
  rw [if_neg (by decide), if_pos (by omega), Option.bind_some]
  rw [List.getLast?_eq_getElem?] at h
  rw [show ((-1 : Int) + (xs.length : Int)).toNat = xs.length - 1 by omega]
  exact h
def InZ (z : Int) (ns : List Int) : Prop := ∀ x ∈ ns, 0 ≤ x ∧ x < z
theorem last_in {z : Int} {ns : List Int} (h : InZ z ns) (n0 : ns ≠ []) : ∃ x, (ns.map V.int).getLast? = some (.int x) ∧ ns.getLast? = some x ∧ 0 ≤ x ∧ x < z := by
  refine ⟨ns.getLast n0, ?_, List.getLast?_eq_some_getLast n0, h _ (List.getLast_mem n0)⟩
  rw [List.getLast?_map, List.getLast?_eq_some_getLast n0]
  rfl
def sp_course (K : PySem.W.Frag) : Sp := fun vs H Q _ => ∃ (p th : Addr) (z r g many : Int) (n : Nat), vs = [.ref p, .ref th, .int many] ∧ H th = some (.tup [.int z, .int r, .int g]) ∧ 2 ≤ z ∧ z ≤ 4 ∧ 1 ≤ many ∧ many ≤ 100 ∧ Deck K H p n ∧ n < 500000 ∧
  ∀ (ns : List Int) (t : Addr) (J : Hp) (m : Nat), (ns.length : Int) = many → InZ z ns → J t = some (.tup (ns.map V.int)) → H t = none → n ≤ m → m ≤ n + 202 → Deck K J p m → Keep p H J → Q (.ref t) J
section
variable {P : Program} {w : World} {K : PySem.W.Frag} {mg : Str → Option Value} {base : Heap}
theorem ok_course (T : Txt K mg) : FnOk P w K mg base CX0 3 T.a_course T.d_course ["_law_deck_here", "_law_house_here", "_law_many"] (sp_course K) := by
  have G_draw : FnOk P w K mg base CX0 1 T.a_draw T.d_draw ["_law_deck_here", "_law_many"] (sp_draw K) := ok_draw T
  have G_one : FnOk P w K mg base CX0 2 T.a_one T.d_one ["_law_deck_here", "_law_items"] (sp_one K) := ok_one T
  have G_rest_kept : FnOk P w K mg base CX0 1 T.a_rest_kept T.d_rest_kept ["_law_course_here", "_law_rest"] (sp_kept K) := ok_kept T
  refine T.F_course.ok sc_course (fun vs H Q E h => ?_) (fun cdv A outer s H vs Q E hr h => ?_)
  · obtain ⟨p, th, z, r, g, many, n, rfl, _⟩ := h
    rfl
  · obtain ⟨p, th, z, r, g, many, n, rfl, ht, z2, z4, m1, m100, D, hn, k⟩ := h
    refine ⟨_, (pss_cons (ps_par (i := 3) (j := 4) (by rfl) sc_course.nd rfl rfl (by decide) rfl rfl (pa_cons (pe_lst (pa_cons (pe_call G_draw (hr.mono (by omega)) (by rfl) T.g_draw T.F_draw.kp T.b_draw .nil pass0 (pa_cons (pv 0) (pa_cons (pe_ix ix_tup (pv 1) pe_int (fun _ _ => rfl)) pa_nil))) pa_nil)) (pa_cons (pe_call G_one (hr.mono (by omega)) (by rfl) T.g_one T.F_one.kp T.b_one .nil pass0 (pa_cons (pv 0) (pa_cons (pe_lst (pa_cons pe_int (pa_cons pe_int (pa_cons pe_int pa_nil)))) pa_nil))) pa_nil)) (by rfl))
      (pss_cons (ps_for PassesOwn.never rfl (pi_range1 (by rfl) T.m_range (pa_cons (pe_op op_sub (pv 2) pe_int) pa_nil)) (pg_name (i := 5) sc_course.nd rfl (Or.inl rfl))
        (pss_cons (ps_set (i := 6) sc_course.nd rfl (Or.inl rfl) (pe_ix ix_list (pv 3) (pe_un un_neg pe_int) (fun _ _ => rfl)))
      (Evl.pss_cut (ps_if (pt_cmpR op_eq (pe_call G_draw (hr.mono (by omega)) (by rfl) T.g_draw T.F_draw.kp T.b_draw .nil pass0 (pa_cons (pv 0) (pa_cons (pv 4) pa_nil))) pe_int (nomark _))
        (pss_one (ps_set (i := 6) sc_course.nd rfl (Or.inl rfl) (pe_call G_draw (hr.mono (by omega)) (by rfl) T.g_draw T.F_draw.kp T.b_draw .nil pass0 (pa_cons (pv 0) (pa_cons (pe_ix ix_tup (pv 1) pe_int (fun _ _ => rfl)) pa_nil)))))
        pss_nil)
      (Evl.pss_cut (ps_if (pt_not (pt_val (pe_call G_rest_kept (hr.mono (by omega)) (by rfl) T.g_rest_kept T.F_rest_kept.kp T.b_rest_kept .nil pass0 (pa_cons (pe_op op_cat (pv 3) (pe_lst (pa_cons (pv 6) pa_nil))) (pa_cons (pe_ix ix_tup (pv 1) pe_int (fun _ _ => rfl)) pa_nil)))))
        (pss_one (ps_set (i := 6) sc_course.nd rfl (Or.inl rfl) (pe_ix ix_list (pv 3) (pe_un un_neg pe_int) (fun _ _ => rfl))))
        pss_nil)
      (pss_one (ps_expr (pe_bm PySem.F.plainAttrs_list PySem.F.slot_list_append PySem.F.type_list_append mt_append (pv 3) (pa_cons (pv 6) pa_nil))))))))
      (pss_one (ps_ret (pe_callTy (T := "tuple") call_tuple_of (by rfl) T.m_tuple (by decide +kernel) (pa_cons (pv 3) pa_nil)))))), ?_⟩
    have th0 : th ≠ p := D.ne_tup ht
    refine ⟨_, rfl, _, rfl, th, _, 0, _, rfl, rfl, SqT.of ht, rfl, p, z, n, rfl, by omega, by omega, D, by omega, fun x0 J0 x1 x2 D0 K0 => ?_⟩
    refine ⟨by show 1 ≤ sizeLine; decide, fun F hF => ?_⟩
    have FP : F ≠ p := D0.ne_new hF
    refine ⟨_, rfl, by show 3 ≤ sizeLine; decide, fun l hl => ?_⟩
    refine ⟨p, l, _, n + 1, rfl, SqL.of upd_same, (D0.put hF).ne_new hl, by show 0 < 3; decide, by show 3 < 100000; decide, (D0.put hF).put hl, by omega, fun j x3 J1 hx3 D1 K1 => ?_⟩
    obtain ⟨often, rfl, o1, o3⟩ : ∃ y : Int, x3 = .int y ∧ 1 ≤ y ∧ y ≤ 3 := by
      have m := List.mem_of_getElem? hx3
      simp only [List.mem_cons, List.not_mem_nil, or_false] at m
      rcases m with m | m | m
      · exact ⟨_, m, by decide, by decide⟩
      · exact ⟨_, m, by decide, by decide⟩
      · exact ⟨_, m, by decide, by decide⟩
    refine ⟨_, _, rfl, ?_⟩
    have K01 : Keep p J0 J1 := ((Keep.new hF).trans (Keep.new hl)).trans K1
    have K0H : Keep p H J0 := K0
    have hF1 : J1 F = some (.lst ([x0].map V.int)) := by
      refine K1.at FP ?_
      rw [upd_ne (ne_of_none (b := l) upd_same hl), upd_same]
      rfl
    refine ⟨_, rfl, _, _, rfl, rfl, _, rfl, by omega, by omega, for_range (lo := 0) (n := (many - 1).toNat) (fun i σ J => ∃ (y5 y6 : Option V) (ns : List Int) (m : Nat), σ = [some (.ref p), some (.ref th), some (.int many), some (.ref F), some (.int often), y5, y6] ∧ ns.length = i + 1 ∧ InZ z ns ∧ J F = some (.lst (ns.map V.int)) ∧ n + 2 ≤ m ∧ m ≤ n + 2 + 2 * i ∧ Deck K J p m ∧ Keep p J0 J)
      ⟨none, none, [x0], n + 2, rfl, rfl, fun x hx => by rw [List.mem_singleton.mp hx]; exact ⟨x1, x2⟩, hF1, Nat.le_refl _, by omega, D1, K01⟩ ?_ ?_⟩
    · rintro i σ J hi ⟨y5, y6, ns, m, rfl, hln, hz, hF', m1', m2', DJ, KJ⟩
      have n0 : ns ≠ [] := fun e => by rw [e] at hln; cases hln
      obtain ⟨la, ela, _, la0, laz⟩ := last_in hz n0
      have thJ : J th = some (.tup [.int z, .int r, .int g]) := (K0.trans KJ).at th0 ht
      refine ⟨_, rfl, _, rfl, F, _, -1, _, rfl, rfl, SqL.of hF', atI_last ela, ?_⟩
      refine ⟨fun σ' J' => ∃ (hd : Int) (m2 : Nat), σ' = [some (.ref p), some (.ref th), some (.int many), some (.ref F), some (.int often), some (.int (0 + (i : Int))), some (.int hd)] ∧ 0 ≤ hd ∧ hd < z ∧ m ≤ m2 ∧ m2 ≤ m + 2 ∧ Deck K J' p m2 ∧ Keep p J J', ?_, ?_⟩
      · refine ⟨_, rfl, _, rfl, p, often, m, rfl, by omega, by omega, DJ, by omega, fun q J2 q0 q1 D2 K2 => ?_⟩
        refine ⟨rfl, _, rfl, ite2 (fun _ => ?_) (fun _ => ⟨la, m + 1, rfl, la0, laz, by omega, by omega, D2, K2⟩)⟩
        refine ⟨_, rfl, _, rfl, th, _, 0, _, rfl, rfl, SqT.of (K2.at th0 thJ), rfl, p, z, m + 1, rfl, by omega, by omega, D2, by omega, fun q2 J3 q3 q4 D3 K3 => ?_⟩
        exact ⟨q2, m + 2, rfl, q3, q4, by omega, by omega, D3, K2.trans K3⟩
      · rintro σ' J' ⟨hd, m2, rfl, h0, h1, m3, m4, D2, K2⟩
        have hF2 := K2.at FP hF'
        have thJ' := K2.at th0 thJ
        refine ⟨fun σ' J3 => ∃ (hd : Int), σ' = [some (.ref p), some (.ref th), some (.int many), some (.ref F), some (.int often), some (.int (0 + (i : Int))), some (.int hd)] ∧ 0 ≤ hd ∧ hd < z ∧ Same J' J3, ?_, ?_⟩
        · refine ⟨_, rfl, _, rfl, by show 1 ≤ sizeLine; decide, fun q hq => ?_⟩
          have s1 : Same J' (upd J' q (.lst [.int hd])) := same_new hq
          refine ⟨F, q, _, _, rfl, rfl, s1 _ _ hF2, upd_same, by show (ns.map V.int).length + 1 ≤ sizeLine; exact Nat.le_of_lt (small1000 (by rw [List.length_map]; omega)), fun c hc => ?_⟩
          have s2 := s1.trans (same_new (o := .lst (ns.map V.int ++ [.int hd])) hc)
          refine ⟨_, rfl, th, _, 1, _, rfl, rfl, SqT.of (s2 _ _ thJ'), rfl, ?_⟩
          refine ⟨c, r, ns ++ [hd], rfl, .inl (SqL.of (by rw [upd_same, List.map_append]; rfl)), by rw [List.length_append, List.length_singleton]; omega, fun J4 S4 => ?_⟩
          refine ⟨_, rfl, ite2 (fun _ => ?_) (fun _ => ⟨hd, rfl, h0, h1, s2.trans S4⟩)⟩
          exact ⟨_, rfl, _, rfl, F, _, -1, _, rfl, rfl, SqL.of (S4 _ _ (s2 _ _ hF2)), atI_last ela, ⟨la, rfl, la0, laz, s2.trans S4⟩⟩
        · rintro σ' J3 ⟨hd', rfl, h0', h1', S3⟩
          have hF3 := S3 _ _ hF2
          have K3 : Keep p J0 J3 := (KJ.trans K2).trans (Keep.of_same S3)
          refine ⟨_, rfl, .inl ⟨rfl, _, SqL.of hF3⟩, _, rfl, F, _, _, rfl, rfl, hF3, small1000 (by rw [List.length_map]; omega), ?_⟩
          refine ⟨_, _, ns ++ [hd'], m2, rfl, by rw [List.length_append, List.length_singleton, hln], ?_, by rw [upd_same, List.map_append]; rfl, by omega, by omega, D0.write hF K3 (D2.of_same S3), K3.write hF FP⟩
          intro x hx
          rcases List.mem_append.mp hx with hx | hx
          · exact hz x hx
          · rw [List.mem_singleton.mp hx]
            exact ⟨h0', h1'⟩
    · rintro σ J ⟨y5, y6, ns, m, rfl, hln, hz, hF', m1', m2', DJ, KJ⟩
      refine ⟨_, rfl, F, _, rfl, .inl ⟨SqL.of hF', fun t ht' => ?_⟩⟩
      have KH : Keep p H J := K0.trans KJ
      refine k ns t _ m (by omega) hz upd_same (KH.free (DJ.ne_new ht') ht') (by omega) (by omega) (DJ.put ht') (KH.trans (Keep.new ht'))
end

/-! ### a drawn course -/
/-! ### courses that keep the rest -/
theorem changesP_at' {ns : List Int} {i : Nat} (h : i + 1 < ns.length) : changesP ns i = (ns[i + 1] != ns[i]) := changesP_at (List.getElem?_eq_getElem h) (List.getElem?_eq_getElem (by omega))
theorem changes_map {f : Int → Int} {ns : List Int} (inj : ∀ x ∈ ns, ∀ y ∈ ns, f x = f y → x = y) : changesI (ns.map f) = changesI ns := by
  unfold changesI
  rw [List.length_map]
  congr 1
  refine List.filter_congr fun i hi => ?_
  have hi' : i + 1 < ns.length := by have := List.mem_range.mp hi; omega
  rw [changesP_at' hi', changesP_at' (ns := ns.map f) (by rw [List.length_map]; exact hi')]
  simp only [List.getElem_map]
  by_cases e : ns[i + 1] = ns[i]
  · rw [e]; simp
  · have e2 : f ns[i + 1] ≠ f ns[i] := fun z => e (inj _ (List.getElem_mem _) _ (List.getElem_mem _) z)
    rw [bne_iff_ne.mpr e, bne_iff_ne.mpr e2]
theorem changes_last {ns : List Int} {la : Int} (h : ns.getLast? = some la) : changesI (ns ++ [la]) = changesI ns := by
  have n0 : 0 < ns.length := by
    cases ns with
    | nil => cases h
    | cons _ _ => simp
  rw [List.getLast?_eq_getElem?] at h
  unfold changesI
  congr 1
  rw [List.length_append, List.length_singleton, show ns.length + 1 - 1 = (ns.length - 1) + 1 by omega, List.range_succ, List.filter_append]
  have z : changesP (ns ++ [la]) (ns.length - 1) = false := by
    unfold changesP
    rw [show ns.length - 1 + 1 = ns.length by omega, List.getElem?_append_left (by omega : ns.length - 1 < ns.length), h]
    simp
  rw [List.filter_cons, z]
  simp only [List.filter_nil, List.append_nil, Bool.false_eq_true, if_false]
  refine List.filter_congr fun i hi => ?_
  have hi' : i + 1 < ns.length := by have := List.mem_range.mp hi; omega
  unfold changesP
  rw [List.getElem?_append_left hi', List.getElem?_append_left (by omega)]
theorem kept_last {ns : List Int} {la r : Int} (h : ns.getLast? = some la) : keptB (ns ++ [la]) r = keptB ns r := by unfold keptB; rw [changes_last h]
theorem kept_map {f : Int → Int} {ns : List Int} {r : Int} (inj : ∀ x ∈ ns, ∀ y ∈ ns, f x = f y → x = y) : keptB (ns.map f) r = keptB ns r := by unfold keptB; rw [changes_map inj]
def sp_courseK (K : PySem.W.Frag) : Sp := fun vs H Q _ => ∃ (p th : Addr) (z r g many : Int) (n : Nat), vs = [.ref p, .ref th, .int many] ∧ H th = some (.tup [.int z, .int r, .int g]) ∧ 2 ≤ z ∧ z ≤ 4 ∧ 1 ≤ many ∧ many ≤ 100 ∧ Deck K H p n ∧ n < 500000 ∧
  ∀ (ns : List Int) (t : Addr) (J : Hp) (m : Nat), (ns.length : Int) = many → InZ z ns → keptB ns r = true → J t = some (.tup (ns.map V.int)) → H t = none → n ≤ m → m ≤ n + 202 → Deck K J p m → Keep p H J → Q (.ref t) J
section
variable {P : Program} {w : World} {K : PySem.W.Frag} {mg : Str → Option Value} {base : Heap}
theorem ok_courseK (T : Txt K mg) : FnOk P w K mg base CX0 3 T.a_course T.d_course ["_law_deck_here", "_law_house_here", "_law_many"] (sp_courseK K) := by
  have G_draw : FnOk P w K mg base CX0 1 T.a_draw T.d_draw ["_law_deck_here", "_law_many"] (sp_draw K) := ok_draw T
  have G_one : FnOk P w K mg base CX0 2 T.a_one T.d_one ["_law_deck_here", "_law_items"] (sp_one K) := ok_one T
  have G_rest_kept : FnOk P w K mg base CX0 1 T.a_rest_kept T.d_rest_kept ["_law_course_here", "_law_rest"] (sp_kept K) := ok_kept T
  refine T.F_course.ok sc_course (fun vs H Q E h => ?_) (fun cdv A outer s H vs Q E hr h => ?_)
  · obtain ⟨p, th, z, r, g, many, n, rfl, _⟩ := h
    rfl
  · obtain ⟨p, th, z, r, g, many, n, rfl, ht, z2, z4, m1, m100, D, hn, k⟩ := h
    refine ⟨_, (pss_cons (ps_par (i := 3) (j := 4) (by rfl) sc_course.nd rfl rfl (by decide) rfl rfl (pa_cons (pe_lst (pa_cons (pe_call G_draw (hr.mono (by omega)) (by rfl) T.g_draw T.F_draw.kp T.b_draw .nil pass0 (pa_cons (pv 0) (pa_cons (pe_ix ix_tup (pv 1) pe_int (fun _ _ => rfl)) pa_nil))) pa_nil)) (pa_cons (pe_call G_one (hr.mono (by omega)) (by rfl) T.g_one T.F_one.kp T.b_one .nil pass0 (pa_cons (pv 0) (pa_cons (pe_lst (pa_cons pe_int (pa_cons pe_int (pa_cons pe_int pa_nil)))) pa_nil))) pa_nil)) (by rfl))
      (pss_cons (ps_for PassesOwn.never rfl (pi_range1 (by rfl) T.m_range (pa_cons (pe_op op_sub (pv 2) pe_int) pa_nil)) (pg_name (i := 5) sc_course.nd rfl (Or.inl rfl))
        (pss_cons (ps_set (i := 6) sc_course.nd rfl (Or.inl rfl) (pe_ix ix_list (pv 3) (pe_un un_neg pe_int) (fun _ _ => rfl)))
      (Evl.pss_cut (ps_if (pt_cmpR op_eq (pe_call G_draw (hr.mono (by omega)) (by rfl) T.g_draw T.F_draw.kp T.b_draw .nil pass0 (pa_cons (pv 0) (pa_cons (pv 4) pa_nil))) pe_int (nomark _))
        (pss_one (ps_set (i := 6) sc_course.nd rfl (Or.inl rfl) (pe_call G_draw (hr.mono (by omega)) (by rfl) T.g_draw T.F_draw.kp T.b_draw .nil pass0 (pa_cons (pv 0) (pa_cons (pe_ix ix_tup (pv 1) pe_int (fun _ _ => rfl)) pa_nil)))))
        pss_nil)
      (Evl.pss_cut (ps_if (pt_not (pt_val (pe_call G_rest_kept (hr.mono (by omega)) (by rfl) T.g_rest_kept T.F_rest_kept.kp T.b_rest_kept .nil pass0 (pa_cons (pe_op op_cat (pv 3) (pe_lst (pa_cons (pv 6) pa_nil))) (pa_cons (pe_ix ix_tup (pv 1) pe_int (fun _ _ => rfl)) pa_nil)))))
        (pss_one (ps_set (i := 6) sc_course.nd rfl (Or.inl rfl) (pe_ix ix_list (pv 3) (pe_un un_neg pe_int) (fun _ _ => rfl))))
        pss_nil)
      (pss_one (ps_expr (pe_bm PySem.F.plainAttrs_list PySem.F.slot_list_append PySem.F.type_list_append mt_append (pv 3) (pa_cons (pv 6) pa_nil))))))))
      (pss_one (ps_ret (pe_callTy (T := "tuple") call_tuple_of (by rfl) T.m_tuple (by decide +kernel) (pa_cons (pv 3) pa_nil)))))), ?_⟩
    have th0 : th ≠ p := D.ne_tup ht
    refine ⟨_, rfl, _, rfl, th, _, 0, _, rfl, rfl, SqT.of ht, rfl, p, z, n, rfl, by omega, by omega, D, by omega, fun x0 J0 x1 x2 D0 K0 => ?_⟩
    refine ⟨by show 1 ≤ sizeLine; decide, fun F hF => ?_⟩
    have FP : F ≠ p := D0.ne_new hF
    refine ⟨_, rfl, by show 3 ≤ sizeLine; decide, fun l hl => ?_⟩
    refine ⟨p, l, _, n + 1, rfl, SqL.of upd_same, (D0.put hF).ne_new hl, by show 0 < 3; decide, by show 3 < 100000; decide, (D0.put hF).put hl, by omega, fun j x3 J1 hx3 D1 K1 => ?_⟩
    obtain ⟨often, rfl, o1, o3⟩ : ∃ y : Int, x3 = .int y ∧ 1 ≤ y ∧ y ≤ 3 := by
      have m := List.mem_of_getElem? hx3
      simp only [List.mem_cons, List.not_mem_nil, or_false] at m
      rcases m with m | m | m
      · exact ⟨_, m, by decide, by decide⟩
      · exact ⟨_, m, by decide, by decide⟩
      · exact ⟨_, m, by decide, by decide⟩
    refine ⟨_, _, rfl, ?_⟩
    have K01 : Keep p J0 J1 := ((Keep.new hF).trans (Keep.new hl)).trans K1
    have K0H : Keep p H J0 := K0
    have hF1 : J1 F = some (.lst ([x0].map V.int)) := by
      refine K1.at FP ?_
      rw [upd_ne (ne_of_none (b := l) upd_same hl), upd_same]
      rfl
    refine ⟨_, rfl, _, _, rfl, rfl, _, rfl, by omega, by omega, for_range (lo := 0) (n := (many - 1).toNat) (fun i σ J => ∃ (y5 y6 : Option V) (ns : List Int) (m : Nat), σ = [some (.ref p), some (.ref th), some (.int many), some (.ref F), some (.int often), y5, y6] ∧ ns.length = i + 1 ∧ InZ z ns ∧ keptB ns r = true ∧ J F = some (.lst (ns.map V.int)) ∧ n + 2 ≤ m ∧ m ≤ n + 2 + 2 * i ∧ Deck K J p m ∧ Keep p J0 J)
      ⟨none, none, [x0], n + 2, rfl, rfl, fun x hx => by rw [List.mem_singleton.mp hx]; exact ⟨x1, x2⟩, rfl, hF1, Nat.le_refl _, by omega, D1, K01⟩ ?_ ?_⟩
    · rintro i σ J hi ⟨y5, y6, ns, m, rfl, hln, hz, hkp, hF', m1', m2', DJ, KJ⟩
      have n0 : ns ≠ [] := fun e => by rw [e] at hln; cases hln
      obtain ⟨la, ela, ela2, la0, laz⟩ := last_in hz n0
      have thJ : J th = some (.tup [.int z, .int r, .int g]) := (K0.trans KJ).at th0 ht
      refine ⟨_, rfl, _, rfl, F, _, -1, _, rfl, rfl, SqL.of hF', atI_last ela, ?_⟩
      refine ⟨fun σ' J' => ∃ (hd : Int) (m2 : Nat), σ' = [some (.ref p), some (.ref th), some (.int many), some (.ref F), some (.int often), some (.int (0 + (i : Int))), some (.int hd)] ∧ 0 ≤ hd ∧ hd < z ∧ m ≤ m2 ∧ m2 ≤ m + 2 ∧ Deck K J' p m2 ∧ Keep p J J', ?_, ?_⟩
      · refine ⟨_, rfl, _, rfl, p, often, m, rfl, by omega, by omega, DJ, by omega, fun q J2 q0 q1 D2 K2 => ?_⟩
        refine ⟨rfl, _, rfl, ite2 (fun _ => ?_) (fun _ => ⟨la, m + 1, rfl, la0, laz, by omega, by omega, D2, K2⟩)⟩
        refine ⟨_, rfl, _, rfl, th, _, 0, _, rfl, rfl, SqT.of (K2.at th0 thJ), rfl, p, z, m + 1, rfl, by omega, by omega, D2, by omega, fun q2 J3 q3 q4 D3 K3 => ?_⟩
        exact ⟨q2, m + 2, rfl, q3, q4, by omega, by omega, D3, K2.trans K3⟩
      · rintro σ' J' ⟨hd, m2, rfl, h0, h1, m3, m4, D2, K2⟩
        have hF2 := K2.at FP hF'
        have thJ' := K2.at th0 thJ
        refine ⟨fun σ' J3 => ∃ (hd : Int), σ' = [some (.ref p), some (.ref th), some (.int many), some (.ref F), some (.int often), some (.int (0 + (i : Int))), some (.int hd)] ∧ 0 ≤ hd ∧ hd < z ∧ keptB (ns ++ [hd]) r = true ∧ Same J' J3, ?_, ?_⟩
        · refine ⟨_, rfl, _, rfl, by show 1 ≤ sizeLine; decide, fun q hq => ?_⟩
          have s1 : Same J' (upd J' q (.lst [.int hd])) := same_new hq
          refine ⟨F, q, _, _, rfl, rfl, s1 _ _ hF2, upd_same, by show (ns.map V.int).length + 1 ≤ sizeLine; exact Nat.le_of_lt (small1000 (by rw [List.length_map]; omega)), fun c hc => ?_⟩
          have s2 := s1.trans (same_new (o := .lst (ns.map V.int ++ [.int hd])) hc)
          refine ⟨_, rfl, th, _, 1, _, rfl, rfl, SqT.of (s2 _ _ thJ'), rfl, ?_⟩
          refine ⟨c, r, ns ++ [hd], rfl, .inl (SqL.of (by rw [upd_same, List.map_append]; rfl)), by rw [List.length_append, List.length_singleton]; omega, fun J4 S4 => ?_⟩
          refine ⟨_, rfl, ite2 (fun _ => ?_) (fun e => ⟨hd, rfl, h0, h1, by simpa using e, s2.trans S4⟩)⟩
          exact ⟨_, rfl, _, rfl, F, _, -1, _, rfl, rfl, SqL.of (S4 _ _ (s2 _ _ hF2)), atI_last ela, ⟨la, rfl, la0, laz, (kept_last ela2).trans hkp, s2.trans S4⟩⟩
        · rintro σ' J3 ⟨hd', rfl, h0', h1', hk', S3⟩
          have hF3 := S3 _ _ hF2
          have K3 : Keep p J0 J3 := (KJ.trans K2).trans (Keep.of_same S3)
          refine ⟨_, rfl, .inl ⟨rfl, _, SqL.of hF3⟩, _, rfl, F, _, _, rfl, rfl, hF3, small1000 (by rw [List.length_map]; omega), ?_⟩
          refine ⟨_, _, ns ++ [hd'], m2, rfl, by rw [List.length_append, List.length_singleton, hln], ?_, hk', by rw [upd_same, List.map_append]; rfl, by omega, by omega, D0.write hF K3 (D2.of_same S3), K3.write hF FP⟩
          intro x hx
          rcases List.mem_append.mp hx with hx | hx
          · exact hz x hx
          · rw [List.mem_singleton.mp hx]
            exact ⟨h0', h1'⟩
    · rintro σ J ⟨y5, y6, ns, m, rfl, hln, hz, hkp, hF', m1', m2', DJ, KJ⟩
      refine ⟨_, rfl, F, _, rfl, .inl ⟨SqL.of hF', fun t ht' => ?_⟩⟩
      have KH : Keep p H J := K0.trans KJ
      refine k ns t _ m (by omega) hz hkp upd_same (KH.free (DJ.ne_new ht') ht') (by omega) (by omega) (DJ.put ht') (KH.trans (Keep.new ht'))
end

/-! ### who stands in front: data alone -/
def headsI (ns : List Int) (m g : Nat) : List Int := (List.range (g + 1)).map fun i => ns.getD (m - i) 0
/-- what stands in front of the first s -/
def ahead (s : Int) : List Int → List Int
  | [] => []
  | x :: r => if x = s then [] else x :: ahead s r
theorem ahead_take {s : Int} : ∀ {ns : List Int} {i : Nat}, (∀ x ∈ ns.take i, x ≠ s) → ns[i]? = some s → ahead s ns = ns.take i
  | [], i, _, h => by simp at h
  | x :: r, 0, _, h => by
    have e : x = s := by simpa using h
    simp [ahead, e]
  | x :: r, i + 1, hn, h => by
    rw [List.take_succ_cons] at hn ⊢
    have nx : x ≠ s := hn x List.mem_cons_self
    simp only [ahead, if_neg nx]
    rw [ahead_take (fun y hy => hn y (List.mem_cons_of_mem _ hy)) (by simpa using h)]
theorem ahead_all {s : Int} : ∀ {ns : List Int}, (∀ x ∈ ns, x ≠ s) → ahead s ns = ns
  | [], _ => rfl
  | x :: r, hn => by
    have nx : x ≠ s := hn x List.mem_cons_self
    simp only [ahead, if_neg nx]
    rw [ahead_all fun y hy => hn y (List.mem_cons_of_mem _ hy)]
theorem mem_ahead {s k : Int} : ∀ {l : List Int}, k ∈ ahead s l ↔ ∃ i, l[i]? = some k ∧ s ∉ l.take (i + 1)
  | [] => by simp [ahead]
  | x :: r => by
    by_cases e : x = s
    · simp only [ahead, if_pos e]
      refine ⟨fun h => absurd h List.not_mem_nil, fun ⟨i, _, h⟩ => absurd ?_ h⟩
      rw [List.take_succ_cons, e]
      exact List.mem_cons_self
    · simp only [ahead, if_neg e, List.mem_cons]
      rw [mem_ahead]
      constructor
      · rintro (h | ⟨i, h1, h2⟩)
        · exact ⟨0, by simp [h], by simp; exact fun z => e z.symm⟩
        · refine ⟨i + 1, by simpa using h1, ?_⟩
          rw [List.take_succ_cons, List.mem_cons]
          rintro (z | z)
          · exact e z.symm
          · exact h2 z
      · rintro ⟨i, h1, h2⟩
        cases i with
        | zero => exact Or.inl (by simpa using h1.symm)
        | succ i =>
          rw [List.take_succ_cons, List.mem_cons] at h2
          exact Or.inr ⟨i, by simpa using h1, fun z => h2 (Or.inr z)⟩

theorem write_same {q : Addr} {G J : Hp} {o : HO} (k : Same G J) (h : G q = none) : Same G (upd J q o) := fun b u e => by
  rw [upd_ne (ne_of_none e h)]
  exact k b u e

/-! ### the law's own word on who may be named, moment by moment back -/
theorem heads_get {ns : List Int} {m g k : Nat} (kg : k ≤ g) : (headsI ns m g)[k]? = some (ns.getD (m - k) 0) := by
  unfold headsI
  rw [List.getElem?_map, List.getElem?_range (by omega)]
  rfl
theorem heads_len {ns : List Int} {m g : Nat} : (headsI ns m g).length = g + 1 := by unfold headsI; rw [List.length_map, List.length_range]
def sp_lnames (K : PySem.W.Frag) : Sp := fun vs H Q _ => ∃ (th a : Addr) (z r s : Int) (g m : Nat) (ns : List Int), vs = [.ref th, .ref a, .int (m : Int), .int s] ∧ SqT K H th [.int z, .int r, .int (g : Int)] ∧ SqT K H a (ns.map V.int) ∧ g ≤ m ∧ m < ns.length ∧ ns.length ≤ 4000 ∧ g < 50 ∧
  ∀ (out : List Int) (t : Addr) (J : Hp), Sorted out (ahead s (headsI ns m g)) → out.length < 60 → Same H J → J t = some (.tup (out.map V.int)) → Q (.ref t) J
section
variable {P : Program} {w : World} {K : PySem.W.Frag} {mg : Str → Option Value} {base : Heap}
theorem ok_lnames (T : Txt K mg) : FnOk P w K mg base CX0 1 T.a_names T.d_names ["_law_house_here", "_law_course_here", "_law_moment", "_law_server"] (sp_lnames K) := by
  refine T.F_names.ok sc_names (fun vs H Q E h => ?_) (fun cdv A outer st H vs Q E hr h => ?_)
  · obtain ⟨th, a, z, r, s, g, m, ns, rfl, _⟩ := h
    rfl
  · obtain ⟨th, a, z, r, s, g, m, ns, rfl, hth, hx, gm, ml, hl, g50, k⟩ := h
    refine ⟨_, (pss_cons (ps_par (i := 4) (j := 5) (by rfl) sc_names.nd rfl rfl (by decide) rfl rfl (pa_cons (pe_lst pa_nil) (pa_cons (pv 2) pa_nil)) (by rfl))
      (pss_cons (ps_while PassesOwn.never (PW.pt (pw_and (pt_cmpR op_ge (pv 5) (pe_op op_sub (pv 2) (pe_ix ix_tup (pv 0) pe_int (fun _ _ => rfl))) (nomark _)) (pw_and1 (pt_cmpR op_ne (pe_ix ix_tup (pv 1) (pv 5) (fun _ _ => rfl)) (pv 3) (nomark _)))))
        (pss_cons (ps_expr (pe_bm PySem.F.plainAttrs_list PySem.F.slot_list_append PySem.F.type_list_append mt_append (pv 4) (pa_cons (pe_ix ix_tup (pv 1) (pv 5) (fun _ _ => rfl)) pa_nil)))
      (pss_one (ps_set (i := 5) sc_names.nd rfl (Or.inl rfl) (pe_op op_sub (pv 5) pe_int)))))
      (pss_one (ps_ret (pe_callTy (T := "tuple") call_tuple_of (by rfl) T.m_tuple (by decide +kernel) (pa_cons (pe_callB (id := "sorted") (cr_sortedSet rfl) (by rfl) T.m_sorted (by decide +kernel) (pa_cons (pe_callTy (T := "set") (cr_setN rfl) (by rfl) T.m_set (by decide +kernel) (pa_cons (pv 4) pa_nil)) pa_nil)) pa_nil)))))), ?_⟩
    refine ⟨Nat.zero_le _, fun F hF => ⟨_, rfl, _, _, rfl, ?_⟩⟩
    let inv : Nat → L2.St → Hp → Prop := fun n σ J => ∃ i : Nat, n + i = g + 1 ∧ σ = [some (.ref th), some (.ref a), some (.int (m : Int)), some (.int s), some (.ref F), some (.int ((m : Int) - (i : Int)))] ∧ (∀ x ∈ (headsI ns m g).take i, x ≠ s) ∧ J F = some (.lst (((headsI ns m g).take i).map V.int)) ∧ Same H J
    refine ⟨inv, ⟨g + 1, 0, by omega, by rw [show (m : Int) - ((0 : Nat) : Int) = (m : Int) by omega]; rfl, fun x hx => absurd hx (by simp), by rw [upd_same]; rfl, same_new hF⟩, ?_⟩
    rintro n σ J ⟨i, hn, rfl, hne, hJ, S⟩
    have fin : (ahead s (headsI ns m g)) = (headsI ns m g).take i → J F = some (.lst ((ahead s (headsI ns m g)).map V.int)) := fun e => by rw [e]; exact hJ
    have la : ∀ l : List Int, (ahead s l).length ≤ l.length := fun l => by
      induction l with
      | nil => exact Nat.le_refl _
      | cons x r ih => simp only [ahead]; split <;> simp <;> omega
    have al : (ahead s (headsI ns m g)).length < 60 := by have := la (headsI ns m g); rw [heads_len] at this; omega
    refine ⟨_, rfl, _, rfl, _, rfl, th, _, 2, _, rfl, rfl, sameT S hth, rfl, _, _, rfl, rfl, _, _, rfl, rfl, _, rfl, ?_⟩
    by_cases ig : i ≤ g
    · rw [decide_eq_true (show (m : Int) - (g : Int) ≤ (m : Int) - (i : Int) by omega)]
      refine iteT ?_
      have hix : ns[m - i]? = some ns[m - i] := List.getElem?_eq_getElem (by omega)
      refine ⟨_, rfl, _, rfl, a, _, _, _, rfl, rfl, sameT S hx, (show atI (ns.map V.int) ((m : Int) - (i : Int)) = _ by rw [show ((m : Int) - (i : Int)) = ((m - i : Nat) : Int) by omega]; exact int_nat hix), ?_⟩
      refine ⟨_, rfl, rfl, _, rfl, ?_⟩
      have hg : (headsI ns m g)[i]? = some ns[m - i] := by rw [heads_get ig, List.getD_eq_getElem?_getD, hix]; rfl
      by_cases es : ns[m - i] = s
      · rw [decide_eq_true (show V.int ns[m - i] = V.int s by rw [es])]
        refine iteF ?_
        have ea := ahead_take hne (by rw [hg, es])
        exact ⟨_, rfl, F, ahead s (headsI ns m g), rfl, .inl (SqL.of (by rw [ea]; exact hJ)), by omega, fun p1 c lm h1 => ⟨p1, _, c, rfl, upd_same, by omega, fun out p2 o1 o2 o3 h2 => ⟨p2, _, rfl, .inl ⟨SqL.of upd_same, fun t ht =>
            k out t _ ⟨o1, fun u => by rw [o2 u]; exact decide_eq_true_iff⟩ (by omega) (((S.trans (same_new h1)).trans (same_new h2)).trans (same_new ht)) upd_same⟩⟩⟩⟩
      · rw [decide_eq_false fun e => es (V.int.inj e)]
        refine iteT ?_
        refine ⟨fun σ' J' => inv (g - i) σ' J', fun σ' J' h => ⟨g - i, by omega, h⟩, ?_⟩
        refine ⟨_, rfl, .inl ⟨rfl, _, SqL.of hJ⟩, _, rfl, _, rfl, a, _, _, _, rfl, rfl, sameT S hx, (show atI (ns.map V.int) ((m : Int) - (i : Int)) = _ by rw [show ((m : Int) - (i : Int)) = ((m - i : Nat) : Int) by omega]; exact int_nat hix), F, _, _, rfl, rfl, hJ, small1000 (by rw [List.length_map, List.length_take]; omega), ?_⟩
        refine ⟨_, rfl, _, _, rfl, rfl, i + 1, by omega, ?_, fun x hx' => ?_, ?_, write_same S hF⟩
        · rw [show (m : Int) - ((i + 1 : Nat) : Int) = (m : Int) - (i : Int) - 1 by omega]
          rfl
        · rw [List.take_add_one, hg] at hx'
          rcases List.mem_append.mp hx' with z | z
          · exact hne x z
          · rw [Option.toList_some, List.mem_singleton] at z
            rw [z]
            exact es
        · rw [upd_same, List.take_add_one, hg, List.map_append]
          rfl
    · rw [decide_eq_false (show ¬ (m : Int) - (g : Int) ≤ (m : Int) - (i : Int) by omega)]
      refine iteF (iteF ?_)
      have ea : ahead s (headsI ns m g) = (headsI ns m g).take i := by
        rw [List.take_of_length_le (by rw [heads_len]; omega)] at hne ⊢
        exact ahead_all hne
      exact ⟨_, rfl, F, ahead s (headsI ns m g), rfl, .inl (SqL.of (by rw [ea]; exact hJ)), by omega, fun p1 c lm h1 => ⟨p1, _, c, rfl, upd_same, by omega, fun out p2 o1 o2 o3 h2 => ⟨p2, _, rfl, .inl ⟨SqL.of upd_same, fun t ht =>
          k out t _ ⟨o1, fun u => by rw [o2 u]; exact decide_eq_true_iff⟩ (by omega) (((S.trans (same_new h1)).trans (same_new h2)).trans (same_new ht)) upd_same⟩⟩⟩⟩
end

/-! ### kinds of values, by the data -/
def wholeD (lo hi : Int) : PyData → Bool
  | .int i => decide (lo ≤ i) && decide (i ≤ hi)
  | _ => false
theorem whole_int {lo hi : Int} {d : PyData} (h : wholeD lo hi d = true) : ∃ i, d = .int i ∧ lo ≤ i ∧ i ≤ hi := by
  cases d <;> first | (exact ⟨_, rfl, by simpa [wholeD] using h⟩) | (exfalso; revert h; simp [wholeD])
theorem isA_whole {lo hi : Int} {d : PyData} (h : (isA "bool" d || !isA "int" d) = true) : wholeD lo hi d = false := by
  cases d <;> first | rfl | (exfalso; revert h; simp [isA, isS, kindD])
def sp_whole (K : PySem.W.Frag) : Sp := fun vs H Q _ => ∃ (v : V) (d : PyData) (lo hi : Int), vs = [v, .int lo, .int hi] ∧ Dp K H v d ∧ Q (.bl (wholeD lo hi d)) H
theorem isA_int_of {d : PyData} (h1 : ¬ isA "bool" d = true) (h2 : ¬ (!isA "int" d) = true) : ∃ i, d = .int i := by
  cases d <;> first | exact ⟨_, rfl⟩ | (exfalso; revert h1 h2; simp [isA, isS, kindD])
section
variable {P : Program} {w : World} {K : PySem.W.Frag} {mg : Str → Option Value} {base : Heap}
theorem ok_whole (T : Txt K mg) : FnOk P w K mg base CX0 1 T.a_whole T.d_whole ["value", "low", "high"] (sp_whole K) := by
  refine T.F_whole.ok sc_whole (fun vs H Q E h => ?_) (fun cdv A outer s H vs Q E hr h => ?_)
  · obtain ⟨v, d, lo, hi, rfl, _⟩ := h
    rfl
  · obtain ⟨v, d, lo, hi, rfl, hd, k⟩ := h
    refine ⟨_, (pss_cons (ps_if (PW.pt (pw_or (pt_val (pe_callB (id := "isinstance") (call_isD "bool" (by decide)) (by rfl) T.m_isinstance (by decide +kernel) (pa_cons (pv 0) (pa_cons (pe_bltn (v := .ty "bool") (by rfl) T.m_bool (by decide +kernel) rfl) pa_nil)))) (pw_or1 (pt_not (pt_val (pe_callB (id := "isinstance") (call_isD "int" (by decide)) (by rfl) T.m_isinstance (by decide +kernel) (pa_cons (pv 0) (pa_cons (pe_bltn (v := .ty "int") (by rfl) T.m_int (by decide +kernel) rfl) pa_nil))))))))
        (pss_one (ps_ret pe_bl))
        pss_nil)
      (pss_one (ps_ret (pe_chain op_le op_le (pv 1) (pv 0) (pv 2))))), ?_⟩
    refine ⟨_, rfl, v, d, rfl, hd, _, rfl, ite2 (fun hb => ?_) (fun hb => ?_)⟩
    · rw [isA_whole (by rw [hb]; rfl)] at k
      exact iteT k
    · refine ⟨_, rfl, v, d, rfl, hd, _, rfl, ite2 (fun hi' => ?_) (fun hi' => ?_)⟩
      · rw [isA_whole (by rw [hi', Bool.or_true])] at k
        exact k
      · obtain ⟨i, rfl⟩ := isA_int_of hb hi'
        cases hd
        refine ⟨_, rfl, _, rfl, lo, i, rfl, rfl, _, rfl, ?_⟩
        by_cases hl : lo ≤ i
        · rw [decide_eq_true hl]
          refine iteT ⟨_, rfl, i, hi, rfl, rfl, ?_⟩
          have e : wholeD lo hi (.int i) = decide (i ≤ hi) := by simp only [wholeD, decide_eq_true hl, Bool.true_and]
          rw [e] at k
          exact k
        · rw [decide_eq_false hl]
          refine iteF ?_
          have e : wholeD lo hi (.int i) = false := by simp only [wholeD, decide_eq_false hl, Bool.false_and]
          rw [e] at k
          exact k
end

/-! ### tuples of just so many -/
def tupD (n : Int) : PyData → Bool
  | .tuple ds => decide ((ds.length : Int) = n)
  | _ => false
theorem isA_tupD {d : PyData} (n : Int) (h : isA "tuple" d = false) : tupD n d = false := by
  cases d <;> first | rfl | (exfalso; revert h; simp [isA, isS, kindD])
def sp_tupleof (K : PySem.W.Frag) : Sp := fun vs H Q _ => ∃ (v : V) (d : PyData) (n : Int), vs = [v, .int n] ∧ Dp K H v d ∧ Q (.bl (tupD n d)) H
section
variable {P : Program} {w : World} {K : PySem.W.Frag} {mg : Str → Option Value} {base : Heap}
theorem ok_tupleof (T : Txt K mg) : FnOk P w K mg base CX0 1 T.a_tuple_of T.d_tuple_of ["value", "many"] (sp_tupleof K) := by
  refine T.F_tuple_of.ok sc_tuple_of (fun vs H Q E h => ?_) (fun cdv A outer s H vs Q E hr h => ?_)
  · obtain ⟨v, d, n, rfl, _⟩ := h
    rfl
  · obtain ⟨v, d, n, rfl, hd, k⟩ := h
    refine ⟨_, (pss_one (ps_ret (pe_and (pe_callB (id := "isinstance") (call_isD "tuple" (by decide)) (by rfl) T.m_isinstance (by decide +kernel) (pa_cons (pv 0) (pa_cons (pe_bltn (v := .ty "tuple") (by rfl) T.m_tuple (by decide +kernel) rfl) pa_nil))) (pe_one (pe_cmpR op_eq (pe_callB (id := "len") call_len_seq (by rfl) T.m_len (by decide +kernel) (pa_cons (pv 0) pa_nil)) (pv 1) (nomark _)))))), ?_⟩
    refine ⟨_, rfl, v, d, rfl, hd, _, rfl, ?_⟩
    cases ht : isA "tuple" d with
    | false =>
      rw [isA_tupD n ht] at k
      exact iteF k
    | true =>
      obtain ⟨ds, rfl⟩ := isA_tup ht
      cases hd with
      | tup h1 h2 =>
        rename_i a xs
        have hl := dpAll_len h2
        refine iteT ⟨_, rfl, a, xs, rfl, .inr h1, _, rfl, rfl, ?_⟩
        have e : decide (V.int (xs.length : Int) = V.int n) = tupD n (.tuple ds) := by
          simp only [tupD, hl, V.int.injEq]
        rw [e]
        exact k
end

/-! ### what every law's own def needs -/
theorem room_law (e : Env) : Room 50 (callerA.deeper e) := (show Room 51 callerA from ⟨rfl, by decide, by decide⟩).deeper e
theorem show_bool (b : Bool) : PyData.showable (.bool b) = true ∧ PyData.depth (.bool b) ≤ 50 ∧ (PyData.shown (.bool b)).length ≤ sizeLine := by
  refine ⟨by simp only [PyData.showable], by simp only [PyData.depth]; decide, ?_⟩
  cases b <;> simp only [PyData.shown] <;> exact Nat.le_trans (by decide : _ ≤ 5) (by decide)
theorem pow_pos_int {s : Int} (h : 0 < s) : ∀ n : Nat, 0 < s ^ n
  | 0 => by rw [Int.pow_zero]; decide
  | n + 1 => by rw [Int.pow_succ]; exact Int.mul_pos (pow_pos_int h n) h
theorem nice_int {e : Nat} {i : Int} (he : 10 ≤ e) (h : i.natAbs ≤ 1000) : nice e (.int i) = true := by
  have p : 2 ^ 10 ≤ 2 ^ e := Nat.pow_le_pow_right (by decide) he
  simp only [nice, decide_eq_true_eq]
  omega
theorem nice_three {e : Nat} {x y z : Int} (he : 10 ≤ e) (hx : x.natAbs ≤ 1000) (hy : y.natAbs ≤ 1000) (hz : z.natAbs ≤ 1000) : nice e (.tuple [.int x, .int y, .int z]) = true := by
  simp only [nice, niceAll, Bool.and_eq_true]
  exact ⟨by simpa only [nice] using nice_int he hx, by simpa only [nice] using nice_int he hy, by simpa only [nice] using nice_int he hz, trivial⟩
theorem tiny_three {x y z : Int} (hx : x.natAbs ≤ 1000) (hy : y.natAbs ≤ 1000) (hz : z.natAbs ≤ 1000) : Tiny 140 4 1 (.tuple [.int x, .int y, .int z]) :=
  ⟨nice_three (by decide) hx hy hz, by simp [wt, wtAll], by simp [PyData.depth, PyData.depthAll]⟩
theorem tiny_int {x : Int} (hx : x.natAbs ≤ 1000) : Tiny 140 1 0 (.int x) := ⟨nice_int (by decide) hx, by simp [wt], by simp [PyData.depth]⟩
theorem ne_self (x : V) : (!decide (x = x)) = false := by
  rw [decide_eq_true rfl]
  rfl

/-! ### more of small data, and of what is kept -/
theorem Deck.sqt {K : PySem.W.Frag} {H J : Hp} {p a : Addr} {n : Nat} {xs : List V} (D : Deck K H p n) (k : Keep p H J) (h : SqT K H a xs) : SqT K J a xs := by
  obtain ⟨_, _, _, _, hp, _⟩ := D
  exact sameT off_in (sameT k.s (tup_off hp h))
theorem Acc.tupI {K : PySem.W.Frag} {p t : Addr} {n : Nat} {vs : List V} {ds : List PyData} {H0 J : Hp} {xs : List V} {ms : List Int} (A : Acc K p n H0 J vs ds) (c : SqT K J t xs) (e : xs = ms.map V.int) : Acc K p n H0 J (vs ++ [.ref t]) (ds ++ [.tuple (ms.map PyData.int)]) := by
  subst e
  exact A.add (dt_of A.dk c (ints_dp ms))
theorem tiny_ints {ms : List Int} {L : Nat} (h : ∀ x ∈ ms, x.natAbs ≤ 1000) (hl : ms.length < L) : Tiny 143 L 20 (.tuple (ms.map PyData.int)) ∧ Tiny 143 L 20 (.list (ms.map PyData.int)) := by
  have w : wtAll (ms.map PyData.int) = ms.length := by
    clear h hl
    induction ms with
    | nil => rfl
    | cons x r ih => simp only [List.map_cons, wtAll, wt, ih, List.length_cons]; omega
  have q := tiny_tup (e := 143) (W := L) (m := 0) (ds := ms.map PyData.int) (fun d hd => by
    obtain ⟨x, hx, rfl⟩ := List.mem_map.mp hd
    exact ⟨nice_int (by decide) (h x hx), by simp [PyData.depth]⟩) (by rw [w]; exact hl)
  exact ⟨q.1.mono (Nat.le_refl _) (Nat.le_refl _) (by decide), q.2.mono (Nat.le_refl _) (Nat.le_refl _) (by decide)⟩
theorem tiny_pair {z r g : Int} {d : PyData} (hz : z.natAbs ≤ 1000) (hr : r.natAbs ≤ 1000) (hg : g.natAbs ≤ 1000) (t : Tiny 143 4000 20 d) : Tiny 143 4100 21 (.list [.tuple [.int z, .int r, .int g], d]) := by
  have t3 := tiny_three hz hr hg
  have a := t3.we
  have b := t.we
  have c := t3.de
  have e := t.de
  refine ⟨?_, by simp only [wt, wtAll] at *; omega, by simp only [PyData.depth, PyData.depthAll] at *; omega⟩
  simp only [nice, niceAll, Bool.and_true, Bool.and_eq_true]
  exact ⟨by simpa only [nice, niceAll, Bool.and_true, Bool.and_eq_true] using nice_three (e := 143) (by decide) hz hr hg, t.ni⟩
theorem len_tiny {d : PyData} (t : Tiny 143 4000 20 d) : ∀ ds, d = .tuple ds → ds.length ≤ 4000 := fun ds e => by
  have a := t.we
  rw [e] at a
  simp only [wt] at a
  have := wtAll_len ds
  omega
theorem tiny_bools (bs : List Bool) (hl : bs.length < 4000) : Tiny 143 4000 20 (.tuple (bs.map PyData.bool)) := by
  have w : wtAll (bs.map PyData.bool) = bs.length := by
    clear hl
    induction bs with
    | nil => rfl
    | cons x r ih => simp only [List.map_cons, wtAll, wt, ih, List.length_cons]; omega
  have q := tiny_tup (e := 143) (W := 4000) (m := 0) (ds := bs.map PyData.bool) (fun d hd => by
    obtain ⟨x, hx, rfl⟩ := List.mem_map.mp hd
    exact ⟨by simp [nice], by simp [PyData.depth]⟩) (by rw [w]; exact hl)
  exact q.1.mono (Nat.le_refl _) (Nat.le_refl _) (by decide)
theorem Deck.of_grow {K : PySem.W.Frag} {H J : Hp} {p : Addr} {n : Nat} (D : Deck K H p n) (e : Grow H J) : Deck K J p n := by
  obtain ⟨l, ns, c, r, hp, lp, hl, z⟩ := D
  exact ⟨l, ns, c, r, e.at hp, lp, e.seq hl, z⟩
theorem sqT_upd {K : PySem.W.Frag} {J : Hp} {q L : Addr} {xs ys : List V} {o : HO} (h : SqT K J q xs) (hl : J L = some (.lst ys)) : SqT K (upd J L o) q xs := by
  rcases h with (h | ⟨u, h⟩) | h
  · exact Or.inl (Or.inl (by rw [upd_ne (ne_of h hl (by intro z; cases z))]; exact h))
  · exact Or.inl (Or.inr ⟨u, by rw [upd_ne (ne_of h hl (by intro z; cases z))]; exact h⟩)
  · exact Or.inr h
theorem bools_dp {K : PySem.W.Frag} {H : Hp} : ∀ bs : List Bool, DpAll K H (bs.map V.bl) (bs.map PyData.bool)
  | [] => .nil
  | b :: bs => .cons (.bl b) (bools_dp bs)
def isOne (x : Int) : Bool := decide (V.int x = V.int 1)
theorem cut_last {xs : List V} {v : V} (h : xs.getLast? = some v) : cutV xs (some (-1)) none = [v] := by
  have h0 : 0 < xs.length := by
    cases xs with
    | nil => cases h
    | cons _ _ => simp
  have e : HT.sIx xs.length 0 (some (-1)) = xs.length - 1 := by
    show (if (-1 : Int) < 0 then ((-1 : Int) + (xs.length : Int)).toNat else min (-1 : Int).toNat xs.length) = xs.length - 1
    rw [if_pos (by decide)]
    omega
  unfold cutV
  rw [e, HT.sIx_none, show xs.length - (xs.length - 1) = 1 by omega]
  rw [List.getLast?_eq_getElem?] at h
  obtain ⟨hl, hv⟩ := List.getElem?_eq_some_iff.mp h
  rw [← List.getElem_cons_drop hl, hv]
  rfl

/-! ### one of the items of a tuple -/
def sp_oneT (K : PySem.W.Frag) : Sp := fun vs H Q _ => ∃ (p a : Addr) (xs : List V) (n : Nat), vs = [.ref p, .ref a] ∧ SqT K H a xs ∧ 0 < xs.length ∧ xs.length < 100000 ∧ Deck K H p n ∧ n < 1000000 ∧
  ∀ (i : Nat) (x : V) (J : Hp), xs[i]? = some x → Deck K J p (n + 1) → Keep p H J → Q x J
section
variable {P : Program} {w : World} {K : PySem.W.Frag} {mg : Str → Option Value} {base : Heap}
theorem ok_oneT (T : Txt K mg) : FnOk P w K mg base CX0 2 T.a_one T.d_one ["_law_deck_here", "_law_items"] (sp_oneT K) := by
  have G_draw : FnOk P w K mg base CX0 1 T.a_draw T.d_draw ["_law_deck_here", "_law_many"] (sp_draw K) := ok_draw T
  refine T.F_one.ok sc_one (fun vs H Q E h => ?_) (fun cdv A outer s H vs Q E hr h => ?_)
  · obtain ⟨p, a, xs, n, rfl, _⟩ := h
    rfl
  · obtain ⟨p, a, xs, n, rfl, hx, x0, x1, D, hn, k⟩ := h
    refine ⟨_, (pss_one (ps_ret (pe_ix ix_seq (pv 1) (pe_call G_draw (hr.mono (by omega)) (by rfl) T.g_draw T.F_draw.kp T.b_draw .nil pass0 (pa_cons (pv 0) (pa_cons (pe_callB (id := "len") call_len_seq (by rfl) T.m_len (by decide +kernel) (pa_cons (pv 1) pa_nil)) pa_nil))) (fun _ _ => rfl)))), ?_⟩
    refine ⟨_, rfl, _, rfl, _, rfl, a, xs, rfl, .inr hx, p, (xs.length : Int), n, rfl, by omega, by omega, D, hn, fun r J r0 r1 DJ KJ => ?_⟩
    obtain ⟨i, rfl⟩ : ∃ i : Nat, r = (i : Int) := ⟨r.toNat, (Int.toNat_of_nonneg r0).symm⟩
    have hi : i < xs.length := by omega
    refine rIx_of (.inr (D.sqt KJ hx)) (atI_nat (List.getElem?_eq_getElem hi)) ?_
    exact k i _ J (List.getElem?_eq_getElem hi) DJ KJ
end

/-! ### pairs as data -/
theorem ints_lay1 (ns : List Int) : PyData.canLay0 (.tuple (ns.map PyData.int)) = true := by simp only [PyData.canLay0, ints_lay]
theorem ints_shapedT (ns : List Int) : SeqAt.shaped (.tuple (ns.map PyData.int)) = true := by
  unfold SeqAt.shaped
  simp only [PyData.canLay0, PyData.depth, ints_lay, ints_deep, Bool.true_and, decide_eq_true_eq]
  decide
def pairD (q : Int × Int) : PyData := .tuple [.int q.1, .int q.2]
def PairAt (J : Hp) (p F : Addr) (v : V) (q : Int × Int) : Prop := ∃ b : Addr, v = .ref b ∧ b ≠ p ∧ b ≠ F ∧ J b = some (.tup [.int q.1, .int q.2])
theorem pairs_dp {K : PySem.W.Frag} {H : Hp} {p F : Addr} : ∀ {vs : List V} {ps : List (Int × Int)}, Paired (PairAt H p F) vs ps → DpAll K (off p H) vs (ps.map pairD)
  | _, _, .nil => .nil
  | _, _, .cons ⟨b, e, b1, _, hb⟩ t => by
    subst e
    exact .cons (.tup (SqT.of (off_at b1 hb)) (.cons (.int _) (.cons (.int _) .nil))) (pairs_dp t)
theorem dp_two {K : PySem.W.Frag} {H : Hp} {v : V} {x y : Int} (h : Dp K H v (.tuple [.int x, .int y])) : ∃ a, v = .ref a ∧ SqT K H a [.int x, .int y] := by
  cases h with
  | tup h1 h2 =>
    cases h2 with
    | cons a h2 =>
    cases h2 with
    | cons b h2 =>
    cases h2
    cases a
    cases b
    exact ⟨_, rfl, h1⟩
theorem pair_shaped {a b : Int} : SeqAt.shaped (.tuple [.int a, .int b]) = true := ints_shapedT [a, b]
theorem two_eqv {a b c d : Int} : PyData.eqv (.tuple [.int a, .int b]) (.tuple [.int c, .int d]) = (decide (a = c) && decide (b = d)) := by
  simp only [PyData.eqv, PyData.eqvAll, Bool.and_true]
  rw [Bool.eq_iff_iff]
  simp
def PairsIn (z : Int) (ps : List (Int × Int)) : Prop := ∀ q ∈ ps, -1 ≤ q.1 ∧ q.1 < z ∧ -1 ≤ q.2 ∧ q.2 < z
theorem dp_ints {K : PySem.W.Frag} {H : Hp} : ∀ {vs : List V} {ns : List Int}, DpAll K H vs (ns.map PyData.int) → vs = ns.map V.int
  | [], [], _ => rfl
  | _ :: _, _ :: ns, .cons (.int _) t => by rw [dp_ints (ns := ns) t]; rfl
theorem dt_ints {K : PySem.W.Frag} {p : Addr} {H : Hp} {v : V} {ns : List Int} (h : Dt K p H v (.tuple (ns.map PyData.int))) : ∃ a : Addr, v = .ref a ∧ SqT K H a (ns.map V.int) := by
  obtain ⟨a, xs, e, hx, al⟩ := h.get
  exact ⟨a, e, by rw [← dp_ints al]; exact hx⟩
theorem InZ.app {z : Int} {a b : List Int} (h : InZ z a) (k : InZ z b) : InZ z (a ++ b) := fun x hx => (List.mem_append.mp hx).elim (h x) (k x)
theorem InZ.one {z x : Int} (h : 0 ≤ x) (k : x < z) : InZ z [x] := fun y hy => by rw [List.mem_singleton.mp hy]; exact ⟨h, k⟩
theorem InZ.take {z : Int} {a : List Int} (h : InZ z a) (j : Nat) : InZ z (a.take j) := fun x hx => h x (List.mem_of_mem_take hx)
theorem InZ.drop {z : Int} {a : List Int} (h : InZ z a) (j : Nat) : InZ z (a.drop j) := fun x hx => h x (List.mem_of_mem_drop hx)
theorem PairsIn.app {z : Int} {a b : List (Int × Int)} (h : PairsIn z a) (k : PairsIn z b) : PairsIn z (a ++ b) := fun x hx => (List.mem_append.mp hx).elim (h x) (k x)
theorem PairsIn.one {z : Int} {q : Int × Int} (h : -1 ≤ q.1 ∧ q.1 < z ∧ -1 ≤ q.2 ∧ q.2 < z) : PairsIn z [q] := fun y hy => by rw [List.mem_singleton.mp hy]; exact h
theorem PairsIn.take {z : Int} {a : List (Int × Int)} (h : PairsIn z a) (j : Nat) : PairsIn z (a.take j) := fun x hx => h x (List.mem_of_mem_take hx)
theorem PairsIn.drop {z : Int} {a : List (Int × Int)} (h : PairsIn z a) (j : Nat) : PairsIn z (a.drop j) := fun x hx => h x (List.mem_of_mem_drop hx)
theorem cut_init {xs : List V} (h : 0 < xs.length) : cutV xs none (some (-1)) = xs.take (xs.length - 1) := by
  have e : HT.sIx xs.length xs.length (some (-1)) = xs.length - 1 := by
    show (if (-1 : Int) < 0 then ((-1 : Int) + (xs.length : Int)).toNat else min (-1 : Int).toNat xs.length) = xs.length - 1
    rw [if_pos (by decide)]
    omega
  unfold cutV
  rw [HT.sIx_none, e, List.drop_zero, Nat.sub_zero]
theorem put_len {α : Type} {l : List α} {x : α} {j : Nat} (h : j < l.length) : (l.take j ++ [x] ++ l.drop (j + 1)).length = l.length := by
  simp only [List.length_append, List.length_take, List.length_singleton, List.length_drop]
  omega

/-! ### what is a telling -/
def tellB (z : Int) : PyData → Bool
  | .tuple ds => decide (ds.length = 2) && ds.all (wholeD (-1) (z - 1))
  | _ => false
theorem tellB_pair {z : Int} {d : PyData} (h : tellB z d = true) : ∃ a b, d = .tuple [.int a, .int b] ∧ -1 ≤ a ∧ a ≤ z - 1 ∧ -1 ≤ b ∧ b ≤ z - 1 := by
  cases d with
  | tuple ds =>
    simp only [tellB, Bool.and_eq_true, decide_eq_true_eq] at h
    obtain ⟨h1, h2⟩ := h
    match ds, h1, h2 with
    | [x, y], _, h2 =>
      simp only [List.all_cons, List.all_nil, Bool.and_true, Bool.and_eq_true] at h2
      obtain ⟨a, rfl, a1, a2⟩ := whole_int h2.1
      obtain ⟨b, rfl, b1, b2⟩ := whole_int h2.2
      exact ⟨a, b, rfl, a1, a2, b1, b2⟩
  | _ => exact absurd h (by simp [tellB])
def sp_istelling (K : PySem.W.Frag) : Sp := fun vs H Q _ => ∃ (th : Addr) (v : V) (z r g : Int) (d : PyData), vs = [.ref th, v] ∧ SqT K H th [.int z, .int r, .int g] ∧ Dp K H v d ∧ ∀ J, Same H J → Q (.bl (tellB z d)) J
section
variable {P : Program} {w : World} {K : PySem.W.Frag} {mg : Str → Option Value} {base : Heap}
theorem ok_istelling (T : Txt K mg) : FnOk P w K mg base CX0 2 T.a_is_telling T.d_is_telling ["house", "value"] (sp_istelling K) := by
  have G_whole : FnOk P w K mg base CX0 1 T.a_whole T.d_whole ["value", "low", "high"] (sp_whole K) := ok_whole T
  have G_tuple_of : FnOk P w K mg base CX0 1 T.a_tuple_of T.d_tuple_of ["value", "many"] (sp_tupleof K) := ok_tupleof T
  refine T.F_is_telling.ok sc_is_telling (fun vs H Q E h => ?_) (fun cdv A outer s H vs Q E hr h => ?_)
  · obtain ⟨th, v, z, r, g, d, rfl, _⟩ := h
    rfl
  · obtain ⟨th, v, z, r, g, d, rfl, hth, hd, k⟩ := h
    refine ⟨_, (pss_one (ps_ret (pe_and (pe_call G_tuple_of (hr.mono (by omega)) (by rfl) T.g_tuple_of T.F_tuple_of.kp T.b_tuple_of .nil pass0 (pa_cons (pv 1) (pa_cons pe_int pa_nil))) (pe_one (pe_callB (id := "all") (cr_all rfl) (by rfl) T.m_all (by decide +kernel) (pa_cons (pe_lc (own := [("part", 2)]) (g := gName 2) (by rfl) sc_is_telling.nd (pi_tup (pv 1)) (blkOk_by (own := [("part", 2)]) (N := ["house", "value", "part"]) (sc := defScope s_is_telling) (by decide +kernel)) (fun _ _ _ _ _ => (pg_name (i := 2) sc_is_telling.nd rfl (Or.inl rfl))) (fun _ _ _ _ _ => pts_nil) (fun _ _ _ _ _ => (pe_call G_whole (hr.mono (by omega)) (by rfl) T.g_whole T.F_whole.kp T.b_whole .nil pass0 (pa_cons (pv 2) (pa_cons (pe_un un_neg pe_int) (pa_cons (pe_op op_sub (pe_ix (ixTK K rfl) (pv 0) pe_int (fun _ _ => rfl)) pe_int) pa_nil)))))) pa_nil)))))), ?_⟩
    refine ⟨_, rfl, v, d, 2, rfl, hd, _, rfl, ?_⟩
    cases ht : tupD 2 d with
    | false =>
      have e : tellB z d = false := by
        cases d with
        | tuple ds =>
          have n2 : ¬ ds.length = 2 := fun e2 => by
            simp [tupD, e2] at ht
          simp only [tellB, decide_eq_false n2, Bool.false_and]
        | _ => rfl
      rw [e] at k
      exact iteF (k H (Same.refl H))
    | true =>
      obtain ⟨ds, rfl, dl⟩ : ∃ ds, d = .tuple ds ∧ ds.length = 2 := by
        cases d with
        | tuple ds => exact ⟨ds, rfl, by simp only [tupD, decide_eq_true_eq] at ht; omega⟩
        | _ => exact absurd ht (by simp [tupD])
      have eT : tellB z (.tuple ds) = ds.all (wholeD (-1) (z - 1)) := by simp only [tellB, dl, decide_true, Bool.true_and]
      rw [eT] at k
      cases hd with
      | tup h1 h2 =>
      rename_i t xs
      have hle := dpAll_len h2
      refine iteT ⟨_, rfl, t, rfl, ⟨_, h1⟩, fun D hD => ?_⟩
      refine lc_tup (K := K) (a := t) (xs := xs) (fun i J => J = upd H D (.lst (((ds.take i).map (wholeD (-1) (z - 1))).map V.bl))) rfl (fun i J _ e => by rw [e]; exact sameT (same_new hD) h1) ?_ ?_
      · rintro i x J hx rfl
        obtain ⟨e, he, xd⟩ := dpAll_get h2 hx
        have hS := same_new (o := .lst (((ds.take i).map (wholeD (-1) (z - 1))).map V.bl)) hD
        refine ⟨rfl, ?_⟩
        unfold tYes
        refine iteT ?_
        refine ⟨_, rfl, 1, rfl, _, rfl, th, _, 0, _, rfl, rfl, sameT hS hth, rfl, _, _, rfl, rfl, x, e, -1, z - 1, rfl, dpSame hS _ _ xd, ?_⟩
        refine ⟨_, upd_same, small1000' (by simp only [List.length_map, List.length_take]; omega), ?_⟩
        rw [upd_upd, List.take_add_one, he]
        simp only [List.map_append, Option.toList_some, List.map_cons, List.map_nil]
      · rintro J rfl
        have s1 := same_new (o := .lst (((ds.take xs.length).map (wholeD (-1) (z - 1))).map V.bl)) hD
        refine ⟨D, (ds.take xs.length).map (wholeD (-1) (z - 1)), rfl, SqL.of upd_same, ?_⟩
        rw [hle, List.take_of_length_le (Nat.le_refl _)] at *
        have ea : (ds.map (wholeD (-1) (z - 1))).all id = ds.all (wholeD (-1) (z - 1)) := by rw [List.all_map]; rfl
        rw [ea]
        exact k _ s1
end

/-! ### nothing stands ahead just if it heads -/
theorem ahead_nil {ns : List Int} {s : Int} {m g : Nat} : (ahead s (headsI ns m g)) = [] ↔ ns.getD m 0 = s := by
  unfold headsI
  rw [List.range_succ_eq_map, List.map_cons]
  by_cases e : ns.getD m 0 = s
  · simp only [ahead, Nat.sub_zero, e]
    simp
  · simp only [ahead, Nat.sub_zero, if_neg e, e]
    simp
theorem ahead_sub {s k : Int} {ns : List Int} {m g : Nat} (gm : g ≤ m) (ml : m < ns.length) (h : k ∈ ahead s (headsI ns m g)) : k ∈ ns := by
  obtain ⟨i, hi, _⟩ := mem_ahead.mp h
  obtain ⟨j, _, hj⟩ := List.mem_map.mp (List.mem_of_getElem? hi)
  rw [← hj, List.getD_eq_getElem?_getD, List.getElem?_eq_getElem (by omega)]
  exact List.getElem_mem _
theorem sorted_nil {out ns : List Int} (h : Sorted out ns) : out = [] ↔ ns = [] := by
  constructor
  · rintro rfl
    cases ns with
    | nil => rfl
    | cons x r => exact absurd ((h.2 x).mpr List.mem_cons_self) List.not_mem_nil
  · rintro rfl
    cases out with
    | nil => rfl
    | cons x r => exact absurd ((h.2 x).mp List.mem_cons_self) List.not_mem_nil

/-! ### what is a log -/
def answerB (z : Int) (d : PyData) : Bool := tellB z d && (match d with
  | .tuple [.int a, .int b] => (decide (a = -1) && decide (b = -1)) || (!decide (a = -1) && (!decide (b = -1) && !decide (a = b)))
  | _ => false)
def logB (z : Int) : PyData → Bool
  | .tuple ds => decide (ds.length ≤ 30) && ds.all (answerB z)
  | _ => false
def sp_isanswer (K : PySem.W.Frag) : Sp := fun vs H Q _ => ∃ (th : Addr) (v : V) (z r g : Int) (d : PyData), vs = [.ref th, v] ∧ SqT K H th [.int z, .int r, .int g] ∧ Dp K H v d ∧ ∀ J, Same H J → Q (.bl (answerB z d)) J
def sp_islog (K : PySem.W.Frag) : Sp := fun vs H Q _ => ∃ (th : Addr) (v : V) (z r g : Int) (d : PyData), vs = [.ref th, v] ∧ SqT K H th [.int z, .int r, .int g] ∧ Dp K H v d ∧ ∀ J, Same H J → Q (.bl (logB z d)) J
section
variable {P : Program} {w : World} {K : PySem.W.Frag} {mg : Str → Option Value} {base : Heap}
theorem ok_isanswer (T : Txt K mg) : FnOk P w K mg base CX0 3 T.a_is_answer T.d_is_answer ["house", "value"] (sp_isanswer K) := by
  have G_is_telling : FnOk P w K mg base CX0 2 T.a_is_telling T.d_is_telling ["house", "value"] (sp_istelling K) := ok_istelling T
  refine T.F_is_answer.ok sc_is_answer (fun vs H Q E h => ?_) (fun cdv A outer s H vs Q E hr h => ?_)
  · obtain ⟨th, v, z, r, g, d, rfl, _⟩ := h
    rfl
  · obtain ⟨th, v, z, r, g, d, rfl, hth, hd, k⟩ := h
    refine ⟨_, (pss_cons (ps_if (pt_not (pt_val (pe_call G_is_telling (hr.mono (by omega)) (by rfl) T.g_is_telling T.F_is_telling.kp T.b_is_telling .nil pass0 (pa_cons (pv 0) (pa_cons (pv 1) pa_nil)))))
        (pss_one (ps_ret pe_bl))
        pss_nil)
      (pss_cons (ps_asg (pv 1) (pg_tup (by rfl) (pgs_cons (pg_name (i := 2) sc_is_answer.nd rfl (Or.inl rfl)) (pgs_cons (pg_name (i := 3) sc_is_answer.nd rfl (Or.inl rfl)) pgs_nil))))
      (pss_one (ps_ret (pe_or (pe_cmpR (op_eqD hr.units) (pv 1) (pe_glob (v := .ref T.a_NONE_ASKED) rfl T.g_NONE_ASKED rfl) (nomark _)) (pe_one (pe_and (pe_cmpR op_ne (pv 2) (pe_un un_neg pe_int) (nomark _)) (pe_and (pe_cmpR op_ne (pv 3) (pe_un un_neg pe_int) (nomark _)) (pe_one (pe_cmpR op_ne (pv 2) (pv 3) (nomark _))))))))))), ?_⟩
    refine ⟨_, rfl, _, rfl, th, v, z, r, g, d, rfl, hth, hd, fun J S => ⟨_, rfl, ?_⟩⟩
    cases ht : tellB z d with
    | false =>
      have e : answerB z d = false := by simp only [answerB, ht, Bool.false_and]
      rw [e] at k
      exact iteT (k J S)
    | true =>
    obtain ⟨a, b, rfl, _⟩ := tellB_pair ht
    obtain ⟨t, rfl, hta⟩ := dp_two (dpSame S _ _ hd)
    have eA : answerB z (.tuple [.int a, .int b]) = ((decide (a = -1) && decide (b = -1)) || (!decide (a = -1) && (!decide (b = -1) && !decide (a = b)))) := by simp only [answerB, ht, Bool.true_and]
    rw [eA] at k
    refine iteF ⟨_, rfl, t, _, rfl, hta, rfl, _, _, rfl, _, _, rfl, rfl, ?_⟩
    have qc : SqT K J T.a_NONE_ASKED [.int (-1), .int (-1)] := sq_any T.q_NONE_ASKED
    refine ⟨_, rfl, .tuple [.int a, .int b], .tuple [.int (-1), .int (-1)], .tup hta (.cons (.int _) (.cons (.int _) .nil)), .tup qc (.cons (.int _) (.cons (.int _) .nil)), pair_shaped, pair_shaped, ?_⟩
    rw [two_eqv]
    have fin := k J S
    refine ⟨_, rfl, ?_⟩
    cases hb : (decide (a = -1) && decide (b = -1)) with
    | true =>
      rw [hb, Bool.true_or] at fin
      exact iteT fin
    | false =>
      rw [hb, Bool.false_or] at fin
      have vd : ∀ x y : Int, decide (V.int x = V.int y) = decide (x = y) := fun x y => by simp only [V.int.injEq]
      refine iteF ⟨_, rfl, 1, rfl, rfl, _, rfl, ?_⟩
      show (if (!decide (V.int a = V.int (-1))) = true then _ else _)
      rw [vd]
      cases ha : decide (a = -1) with
      | true =>
        rw [ha, Bool.not_true, Bool.false_and] at fin
        exact iteF fin
      | false =>
        rw [ha, Bool.not_false, Bool.true_and] at fin
        refine iteT ⟨_, rfl, 1, rfl, rfl, _, rfl, ?_⟩
        show (if (!decide (V.int b = V.int (-1))) = true then _ else _)
        rw [vd]
        cases hb' : decide (b = -1) with
        | true =>
          rw [hb', Bool.not_true, Bool.false_and] at fin
          exact iteF fin
        | false =>
          rw [hb', Bool.not_false, Bool.true_and] at fin
          refine iteT ⟨_, rfl, _, rfl, rfl, ?_⟩
          rw [vd]
          exact fin
theorem ok_islog (T : Txt K mg) : FnOk P w K mg base CX0 4 T.a_is_log T.d_is_log ["house", "value"] (sp_islog K) := by
  have G_is_answer : FnOk P w K mg base CX0 3 T.a_is_answer T.d_is_answer ["house", "value"] (sp_isanswer K) := ok_isanswer T
  refine T.F_is_log.ok sc_is_log (fun vs H Q E h => ?_) (fun cdv A outer s H vs Q E hr h => ?_)
  · obtain ⟨th, v, z, r, g, d, rfl, _⟩ := h
    rfl
  · obtain ⟨th, v, z, r, g', d, rfl, hth, hd, k⟩ := h
    refine ⟨_, (pss_cons (ps_if (PW.pt (pw_or (pt_not (pt_val (pe_callB (id := "isinstance") (call_isD "tuple" (by decide)) (by rfl) T.m_isinstance (by decide +kernel) (pa_cons (pv 1) (pa_cons (pe_bltn (v := .ty "tuple") (by rfl) T.m_tuple (by decide +kernel) rfl) pa_nil))))) (pw_or1 (pt_cmpR op_gt (pe_callB (id := "len") call_len_seq (by rfl) T.m_len (by decide +kernel) (pa_cons (pv 1) pa_nil)) (pe_glob (v := .int 30) rfl T.g_MOST_PAIRS ⟨_, rfl⟩) (nomark _)))))
        (pss_one (ps_ret pe_bl))
        pss_nil)
      (pss_one (ps_ret (pe_callB (id := "all") (cr_all rfl) (by rfl) T.m_all (by decide +kernel) (pa_cons (pe_lc (own := [("pair", 2)]) (g := gName 2) (by rfl) sc_is_log.nd (pi_tup (pv 1)) (blkOk_by (own := [("pair", 2)]) (N := ["house", "value", "pair"]) (sc := defScope s_is_log) (by decide +kernel)) (fun _ _ _ _ _ => (pg_name (i := 2) sc_is_log.nd rfl (Or.inl rfl))) (fun _ _ _ _ _ => pts_nil) (fun _ _ _ _ _ => (pe_call G_is_answer (hr.mono (by omega)) (by rfl) T.g_is_answer T.F_is_answer.kp T.b_is_answer .nil pass0 (pa_cons (pv 0) (pa_cons (pv 2) pa_nil))))) pa_nil))))), ?_⟩
    refine ⟨_, rfl, v, d, rfl, hd, _, rfl, ?_⟩
    cases ht : isA "tuple" d with
    | false =>
      have e : logB z d = false := by cases d <;> first | rfl | (exfalso; revert ht; simp [isA, isS, kindD])
      rw [e] at k
      exact iteT (iteT (k H (Same.refl H)))
    | true =>
    obtain ⟨ds, rfl⟩ := isA_tup ht
    cases hd with
    | tup h1 h2 =>
    rename_i t xs
    have hl := dpAll_len h2
    refine iteF ⟨_, rfl, t, xs, rfl, .inr h1, (xs.length : Int), 30, rfl, rfl, _, rfl, ?_⟩
    by_cases l30 : (30 : Int) < (xs.length : Int)
    · rw [decide_eq_true l30]
      have g : ¬ ds.length ≤ 30 := by omega
      have e : logB z (.tuple ds) = false := by simp only [logB, decide_eq_false g, Bool.false_and]
      rw [e] at k
      exact iteT (k H (Same.refl H))
    · rw [decide_eq_false l30]
      have g : ds.length ≤ 30 := by omega
      refine iteF ⟨_, rfl, t, rfl, ⟨_, h1⟩, fun D hD => ?_⟩
      refine lc_tup (K := K) (a := t) (xs := xs) (fun i J => Same H J ∧ J D = some (.lst (((ds.take i).map (answerB z)).map V.bl))) ⟨same_new hD, upd_same⟩ (fun i J _ ⟨S, _⟩ => sameT S h1) ?_ ?_
      · rintro i x J hx ⟨S, hJ⟩
        obtain ⟨e, he, xd⟩ := dpAll_get h2 hx
        refine ⟨rfl, ?_⟩
        unfold tYes
        refine iteT ⟨_, rfl, _, rfl, th, x, z, r, g', e, rfl, sameT S hth, dpSame S _ _ xd, fun J2 S2 => ?_⟩
        refine ⟨_, S2 _ _ hJ, small1000' (by simp only [List.length_map, List.length_take]; omega), write_same (S.trans S2) hD, ?_⟩
        rw [upd_same, List.take_add_one, he]
        simp only [List.map_append, Option.toList_some, List.map_cons, List.map_nil]
      · rintro J ⟨S, hJ⟩
        refine ⟨D, (ds.take xs.length).map (answerB z), rfl, SqL.of hJ, ?_⟩
        have ea : ((ds.take xs.length).map (answerB z)).all id = logB z (.tuple ds) := by
          rw [hl, List.take_of_length_le (Nat.le_refl _), List.all_map]
          simp only [logB, decide_eq_true g, Bool.true_and]
          rfl
        rw [ea]
        exact k _ S
end

/-! ### the law's own word on what a log is -/
section
variable {P : Program} {w : World} {K : PySem.W.Frag} {mg : Str → Option Value} {base : Heap}
theorem tellB_bad {z : Int} {ds : List PyData} {e : PyData} (he : e ∈ ds) (h : wholeD (-1) (z - 1) e = false) : answerB z (.tuple ds) = false := by
  have : ds.all (wholeD (-1) (z - 1)) = false := List.all_eq_false.mpr ⟨e, he, by rw [h]; simp⟩
  simp only [answerB, tellB, this, Bool.and_false, Bool.false_and]
theorem ok_ldue (T : Txt K mg) : FnOk P w K mg base CX0 1 T.a_due T.d_due ["_law_house_here", "_law_thing"] (sp_islog K) := by
  refine T.F_due.ok sc_due (fun vs H Q E h => ?_) (fun cdv A outer s H vs Q E hr h => ?_)
  · obtain ⟨th, v, z, r, g, d, rfl, _⟩ := h
    rfl
  · obtain ⟨th, v, z, r, g, d, rfl, hth, hd, k⟩ := h
    refine ⟨_, (pss_cons (ps_if (PW.pt (pw_or (pt_not (pt_val (pe_callB (id := "isinstance") (call_isD "tuple" (by decide)) (by rfl) T.m_isinstance (by decide +kernel) (pa_cons (pv 1) (pa_cons (pe_bltn (v := .ty "tuple") (by rfl) T.m_tuple (by decide +kernel) rfl) pa_nil))))) (pw_or1 (pt_cmpR op_gt (pe_callB (id := "len") call_len_seq (by rfl) T.m_len (by decide +kernel) (pa_cons (pv 1) pa_nil)) pe_int (nomark _)))))
        (pss_one (ps_ret pe_bl))
        pss_nil)
      (pss_cons (ps_for PassesOwn.never rfl (pi_tup (pv 1)) (pg_name (i := 2) sc_due.nd rfl (Or.inl rfl))
        (pss_cons (ps_if (PW.pt (pw_or (pt_not (pt_val (pe_callB (id := "isinstance") (call_isD "tuple" (by decide)) (by rfl) T.m_isinstance (by decide +kernel) (pa_cons (pv 2) (pa_cons (pe_bltn (v := .ty "tuple") (by rfl) T.m_tuple (by decide +kernel) rfl) pa_nil))))) (pw_or1 (pt_cmpR op_ne (pe_callB (id := "len") call_len_seq (by rfl) T.m_len (by decide +kernel) (pa_cons (pv 2) pa_nil)) pe_int (nomark _)))))
        (pss_one (ps_ret pe_bl))
        pss_nil)
      (pss_cons (ps_for PassesOwn.never rfl (pi_tup (pv 2)) (pg_name (i := 3) sc_due.nd rfl (Or.inl rfl))
        (pss_one (ps_if (PW.pt (pw_or (pt_val (pe_callB (id := "isinstance") (call_isD "bool" (by decide)) (by rfl) T.m_isinstance (by decide +kernel) (pa_cons (pv 3) (pa_cons (pe_bltn (v := .ty "bool") (by rfl) T.m_bool (by decide +kernel) rfl) pa_nil)))) (pw_or (pt_not (pt_val (pe_callB (id := "isinstance") (call_isD "int" (by decide)) (by rfl) T.m_isinstance (by decide +kernel) (pa_cons (pv 3) (pa_cons (pe_bltn (v := .ty "int") (by rfl) T.m_int (by decide +kernel) rfl) pa_nil))))) (pw_or1 (pt_not (pt_chain op_le op_lt (pe_un un_neg pe_int) (pv 3) (pe_ix ix_tup (pv 0) pe_int (fun _ _ => rfl))))))))
        (pss_one (ps_ret pe_bl))
        pss_nil)))
      (pss_one (ps_if (PW.pt (pw_and (pt_cmpR (op_neD hr.units) (pv 2) (pe_tup (pa_cons (pe_un un_neg pe_int) (pa_cons (pe_un un_neg pe_int) pa_nil))) (nomark _)) (pw_and1 (PW.pt (pw_or (pt_cmpR (op_inT (hu65 hr)) (pe_un un_neg pe_int) (pv 2) (by rfl)) (pw_or1 (pt_cmpR op_eq (pe_ix ix_tup (pv 2) pe_int (fun _ _ => rfl)) (pe_ix ix_tup (pv 2) pe_int (fun _ _ => rfl)) (nomark _))))))))
        (pss_one (ps_ret pe_bl))
        pss_nil)))))
      (pss_one (ps_ret pe_bl)))), ?_⟩
    refine ⟨_, rfl, v, d, rfl, hd, _, rfl, ?_⟩
    cases ht : isA "tuple" d with
    | false =>
      have e : logB z d = false := by cases d <;> first | rfl | (exfalso; revert ht; simp [isA, isS, kindD])
      rw [e] at k
      exact iteT (iteT (k H (Same.refl H)))
    | true =>
    obtain ⟨ds, rfl⟩ := isA_tup ht
    cases hd with
    | tup h1 h2 =>
    rename_i t xs
    have hl := dpAll_len h2
    refine iteF ⟨_, rfl, t, xs, rfl, .inr h1, (xs.length : Int), 30, rfl, rfl, _, rfl, ?_⟩
    by_cases l30 : (30 : Int) < (xs.length : Int)
    · rw [decide_eq_true l30]
      have g : ¬ ds.length ≤ 30 := by omega
      have e : logB z (.tuple ds) = false := by simp only [logB, decide_eq_false g, Bool.false_and]
      rw [e] at k
      exact iteT (k H (Same.refl H))
    rw [decide_eq_false l30]
    have g30 : ds.length ≤ 30 := by omega
    have eL : logB z (.tuple ds) = ds.all (answerB z) := by simp only [logB, decide_eq_true g30, Bool.true_and]
    rw [eL] at k
    refine iteF ⟨_, rfl, t, rfl, ⟨_, h1⟩, for_tup (K := K) (a := t) (xs := xs) (fun i σ J => (∃ y2 y3, σ = [some (.ref th), some (.ref t), y2, y3]) ∧ Same H J ∧ ∀ e ∈ ds.take i, answerB z e = true) ⟨⟨none, none, rfl⟩, Same.refl H, fun e he => (List.not_mem_nil he).elim⟩ (fun i σ J _ ⟨_, S, _⟩ => sameT S h1) ?_ ?_⟩
    · rintro i x σ J hx ⟨⟨y2, y3, rfl⟩, S, hall⟩
      obtain ⟨e, he, xd⟩ := dpAll_get h2 hx
      have xd' := dpSame S _ _ xd
      have hm := List.mem_of_getElem? he
      have bad : ∀ J, Same H J → answerB z e = false → Q (.bl false) J := fun J S q => by
        have e0 : ds.all (answerB z) = false := List.all_eq_false.mpr ⟨e, hm, by rw [q]; simp⟩
        rw [e0] at k
        exact k J S
      have ok : answerB z e = true → ∀ u ∈ ds.take (i + 1), answerB z u = true := fun q u hu => by
        rw [List.take_add_one, he] at hu
        rcases List.mem_append.mp hu with hu | hu
        · exact hall u hu
        · rw [Option.toList_some, List.mem_singleton] at hu
          rw [hu]
          exact q
      refine ⟨_, rfl, x, e, rfl, xd', _, rfl, ?_⟩
      cases hte : isA "tuple" e with
      | false =>
        have q : answerB z e = false := by cases e <;> first | rfl | (exfalso; revert hte; simp [isA, isS, kindD])
        exact iteT (iteT (bad J S q))
      | true =>
      obtain ⟨es, rfl⟩ := isA_tup hte
      cases xd' with
      | tup g1 g2 =>
      rename_i b ys
      have hle := dpAll_len g2
      refine iteF ⟨_, rfl, b, ys, rfl, .inr g1, rfl, _, rfl, ?_⟩
      by_cases n2 : es.length = 2
      case neg =>
        have q : answerB z (.tuple es) = false := by simp only [answerB, tellB, decide_eq_false n2, Bool.false_and]
        rw [show (!decide (V.int (ys.length : Int) = V.int 2)) = true by simp only [V.int.injEq, Bool.not_eq_true', decide_eq_false_iff_not]; omega]
        exact iteT (bad J S q)
      rw [show (!decide (V.int (ys.length : Int) = V.int 2)) = false by rw [hle, n2]; rfl]
      refine iteF ⟨_, rfl, b, rfl, ⟨_, g1⟩, for_tup (K := K) (a := b) (xs := ys) (fun j σ J' => (∃ y3, σ = [some (.ref th), some (.ref t), some (.ref b), y3]) ∧ Same J J' ∧ ∀ u ∈ es.take j, wholeD (-1) (z - 1) u = true) ⟨⟨y3, rfl⟩, Same.refl J, fun e he => (List.not_mem_nil he).elim⟩ (fun i σ J' _ ⟨_, S', _⟩ => sameT S' g1) ?_ ?_⟩
      · rintro j y σ' J' hy ⟨⟨y3', rfl⟩, S', hall'⟩
        obtain ⟨u, hu, ud⟩ := dpAll_get g2 hy
        have um := List.mem_of_getElem? hu
        have ud' := dpSame S' _ _ ud
        have SJ := S.trans S'
        have badu : wholeD (-1) (z - 1) u = false → Q (.bl false) J' := fun q => bad J' SJ (tellB_bad um q)
        refine ⟨_, rfl, y, u, rfl, ud', _, rfl, ite2 (fun hb => iteT (badu (isA_whole (by rw [hb]; rfl)))) (fun hb => ?_)⟩
        refine ⟨_, rfl, y, u, rfl, ud', _, rfl, ite2 (fun hi' => iteT (badu (isA_whole (by rw [hi', Bool.or_true])))) (fun hi' => ?_)⟩
        obtain ⟨n, rfl⟩ := isA_int_of hb hi'
        cases ud'
        have oku : wholeD (-1) (z - 1) (.int n) = true → ∀ u ∈ es.take (j + 1), wholeD (-1) (z - 1) u = true := fun q u' hu' => by
          rw [List.take_add_one, hu] at hu'
          rcases List.mem_append.mp hu' with hu' | hu'
          · exact hall' u' hu'
          · rw [Option.toList_some, List.mem_singleton] at hu'
            rw [hu']
            exact q
        refine ⟨1, rfl, _, rfl, (-1 : Int), n, rfl, rfl, _, rfl, ?_⟩
        by_cases n0 : -1 ≤ n
        · rw [decide_eq_true n0]
          refine iteT ⟨_, rfl, th, _, 0, _, rfl, rfl, sameT SJ hth, rfl, n, z, rfl, rfl, _, rfl, ?_⟩
          by_cases nz : n < z
          · rw [decide_eq_true nz]
            refine iteF ⟨⟨_, rfl⟩, S', oku ?_⟩
            have nz' : n ≤ z - 1 := by omega
            simp only [wholeD, decide_eq_true n0, decide_eq_true nz', Bool.and_self]
          · rw [decide_eq_false nz]
            refine iteT (badu ?_)
            have nz' : ¬ n ≤ z - 1 := by omega
            simp only [wholeD, decide_eq_false nz', Bool.and_false]
        · rw [decide_eq_false n0]
          refine iteF ⟨_, rfl, iteT (badu ?_)⟩
          simp only [wholeD, decide_eq_false n0, Bool.false_and]
      · rintro σ' J' ⟨⟨y3', rfl⟩, S', hall'⟩
        have SJ := S.trans S'
        rw [hle, List.take_of_length_le (Nat.le_refl _)] at hall'
        have hT : tellB z (.tuple es) = true := by
          simp only [tellB, decide_eq_true n2, Bool.true_and]
          exact List.all_eq_true.mpr hall'
        obtain ⟨a, c, ea, _⟩ := tellB_pair hT
        cases ea
        obtain ⟨x', y', rfl⟩ : ∃ x' y', ys = [x', y'] := by
          cases g2 with
          | cons u1 u2 =>
          cases u2 with
          | cons u2 u3 =>
          cases u3
          exact ⟨_, _, rfl⟩
        cases g2 with
        | cons u1 u2 =>
        cases u2 with
        | cons u2 u3 =>
        cases u3
        cases u1
        cases u2
        have hb := sameT S' g1
        have eA : answerB z (.tuple [.int a, .int c]) = ((decide (a = -1) && decide (c = -1)) || (!decide (a = -1) && (!decide (c = -1) && !decide (a = c)))) := by simp only [answerB, hT, Bool.true_and]
        rw [eA] at bad ok
        refine ⟨_, rfl, 1, rfl, 1, rfl, by show 2 ≤ sizeLine; decide, fun q hq => ?_⟩
        have s3 := SJ.trans (same_new (o := .tup [.int (-1), .int (-1)]) hq)
        have hb2 : SqT K (upd J' q (.tup [.int (-1), .int (-1)])) b [.int a, .int c] := sameT (same_new hq) hb
        refine ⟨.tuple [.int a, .int c], .tuple [.int (-1), .int (-1)], .tup hb2 (.cons (.int _) (.cons (.int _) .nil)), .tup (SqT.of upd_same) (.cons (.int _) (.cons (.int _) .nil)), pair_shaped, pair_shaped, ?_⟩
        generalize upd J' q (.tup [.int (-1), .int (-1)]) = J3 at *
        rw [two_eqv]
        have vd : ∀ x y : Int, decide (V.int x = V.int y) = decide (x = y) := fun x y => by simp only [V.int.injEq]
        refine ⟨_, rfl, ?_⟩
        cases hw : (decide (a = -1) && decide (c = -1)) with
        | true => exact iteF ⟨⟨_, _, rfl⟩, s3, ok (by rw [hw, Bool.true_or])⟩
        | false =>
          rw [hw, Bool.false_or] at ok bad
          refine iteT ⟨1, rfl, _, rfl, .int (-1), [.int a, .int c], .int _, .tup hb2 (.cons (.int _) (.cons (.int _) .nil)), by decide, pair_shaped, _, rfl, ?_⟩
          have ea : ([PyData.int a, .int c].any fun z => PyData.eqv z (.int (-1))) = (decide (a = -1) || decide (c = -1)) := by
            simp only [List.any_cons, List.any_nil, Bool.or_false, PyData.eqv]
            rw [Bool.eq_iff_iff]
            simp
          rw [ea]
          cases ha : decide (a = -1) with
          | true => exact iteT (bad _ s3 (by rw [ha, Bool.not_true, Bool.false_and]))
          | false =>
          cases hc : decide (c = -1) with
          | true => exact iteT (bad _ s3 (by rw [hc, Bool.not_true, Bool.false_and, Bool.and_false]))
          | false =>
          rw [ha, hc, Bool.not_false, Bool.true_and, Bool.true_and] at ok bad
          refine iteF ⟨_, rfl, b, _, 0, _, rfl, rfl, hb2, rfl, _, rfl, b, _, 1, _, rfl, rfl, hb2, rfl, rfl, _, rfl, ?_⟩
          rw [vd]
          cases hac : decide (a = c) with
          | true => exact iteT (bad _ s3 (by rw [hac]; rfl))
          | false => exact iteF ⟨⟨_, _, rfl⟩, s3, ok (by rw [hac]; rfl)⟩
    · rintro σ J ⟨⟨y2, y3, rfl⟩, S, hall⟩
      rw [hl, List.take_of_length_le (Nat.le_refl _)] at hall
      have e : ds.all (answerB z) = true := List.all_eq_true.mpr hall
      rw [e] at k
      exact k J S
end

/-! ### a drawn log -/
def logT (ps : List (Int × Int)) : PyData := .tuple (ps.map pairD)
/-- what has been drawn so far -/
def LogAt (K : PySem.W.Frag) (p th tc F : Addr) (many z r g : Int) (cs : List Int) (J1 : Hp) (i N : Nat) (σ : L2.St) (J : Hp) : Prop := ∃ (y5 y6 y7 : Option V) (ps : List (Int × Int)) (fs : List V) (n' : Nat), σ = [some (.ref p), some (.ref th), some (.int many), some (.ref tc), some (.ref F), y5, y6, y7] ∧ ps.length ≤ i ∧ J F = some (.lst fs) ∧
  J th = some (.tup [.int z, .int r, .int g]) ∧ J tc = some (.tup (cs.map V.int)) ∧ Paired (PairAt J p F) fs ps ∧ PairsIn z ps ∧ n' ≤ N ∧ Deck K J p n' ∧ Keep p J1 J
theorem pairs_shaped (ps : List (Int × Int)) : SeqAt.shaped (.list (ps.map pairD)) = true ∧ SeqAt.shaped (.tuple (ps.map pairD)) = true := by
  have h1 : PyData.canLayAll0 (ps.map pairD) = true := by
    induction ps with
    | nil => simp only [List.map_nil, PyData.canLayAll0]
    | cons q ps ih => simp only [List.map_cons, PyData.canLayAll0, pairD, PyData.canLay0, ih, Bool.and_self]
  have h2 : PyData.depthAll (ps.map pairD) ≤ 1 := depthAll_le.mpr fun d hd => by
    obtain ⟨q, _, rfl⟩ := List.mem_map.mp hd
    simp [pairD, PyData.depth, PyData.depthAll]
  have h4 : PyData.depth (.tuple (ps.map pairD)) ≤ 64 := by simp only [PyData.depth]; omega
  have h4' : PyData.depth (.list (ps.map pairD)) ≤ 64 := by simp only [PyData.depth]; omega
  have h5 : PyData.canLay0 (.tuple (ps.map pairD)) = true := by simp only [PyData.canLay0, h1]
  have h5' : PyData.canLay0 (.list (ps.map pairD)) = true := by simp only [PyData.canLay0, h1]
  exact ⟨Bool.and_eq_true_iff.mpr ⟨h5', decide_eq_true h4'⟩, Bool.and_eq_true_iff.mpr ⟨h5, decide_eq_true h4⟩⟩
theorem list_nil (ds : List PyData) : PyData.eqv (.list ds) (.list []) = ds.isEmpty := by cases ds <;> simp [PyData.eqv, PyData.eqvAll]
theorem paired_len {α β : Type} {F : α → β → Prop} : ∀ {as : List α} {bs : List β}, Paired F as bs → as.length = bs.length
  | _, _, .nil => rfl
  | _, _, .cons _ t => by rw [List.length_cons, List.length_cons, paired_len t]
theorem paired_set {α β : Type} {F : α → β → Prop} : ∀ {as : List α} {bs : List β} {a : α} {b : β} (j : Nat), Paired F as bs → F a b → Paired F (as.set j a) (bs.set j b)
  | _, _, _, _, _, .nil, _ => .nil
  | _, _, _, _, 0, .cons _ t, h => .cons h t
  | _, _, _, _, j + 1, .cons r t, h => .cons r (paired_set j t h)
theorem pairsIn_set {z : Int} {q : Int × Int} (h : -1 ≤ q.1 ∧ q.1 < z ∧ -1 ≤ q.2 ∧ q.2 < z) {ps : List (Int × Int)} (j : Nat) (k : PairsIn z ps) : PairsIn z (ps.set j q) := fun x hx => by
  rcases List.mem_or_eq_of_mem_set hx with hx | rfl
  · exact k x hx
  · exact h
def sp_log (K : PySem.W.Frag) : Sp := fun vs H Q _ => ∃ (p th : Addr) (z r : Int) (g many n : Nat), vs = [.ref p, .ref th, .int (many : Int)] ∧ H th = some (.tup [.int z, .int r, .int (g : Int)]) ∧ 2 ≤ z ∧ z ≤ 4 ∧ g ≤ 3 ∧ 1 ≤ many ∧ many ≤ 40 ∧ Deck K H p n ∧ n < 400000 ∧
  ∀ (ps : List (Int × Int)) (t : Addr) (fs : List V) (J : Hp) (n' : Nat), ps.length ≤ many → PairsIn z ps → SqT K J t fs → DpAll K (off p J) fs (ps.map pairD) → n' ≤ n + 206 + 4 * many → Deck K J p n' → Keep p H J → Q (.ref t) J
section
variable {P : Program} {w : World} {K : PySem.W.Frag} {mg : Str → Option Value} {base : Heap}
theorem ok_log (T : Txt K mg) : FnOk P w K mg base CX0 4 T.a_log T.d_log ["_law_deck_here", "_law_house_here", "_law_many"] (sp_log K) := by
  have G_draw : FnOk P w K mg base CX0 1 T.a_draw T.d_draw ["_law_deck_here", "_law_many"] (sp_draw K) := ok_draw T
  have G_course : FnOk P w K mg base CX0 3 T.a_course T.d_course ["_law_deck_here", "_law_house_here", "_law_many"] (sp_courseK K) := ok_courseK T
  have G_oneT : FnOk P w K mg base CX0 2 T.a_one T.d_one ["_law_deck_here", "_law_items"] (sp_oneT K) := ok_oneT T
  have G_names : FnOk P w K mg base CX0 1 T.a_names T.d_names ["_law_house_here", "_law_course_here", "_law_moment", "_law_server"] (sp_lnames K) := ok_lnames T
  refine T.F_log.ok sc_log (fun vs H Q E h => ?_) (fun cdv A outer s H vs Q E hr h => ?_)
  · obtain ⟨p, th, z, r, g, many, n, rfl, _⟩ := h
    rfl
  · obtain ⟨p, th, z, r, g, many, n, rfl, hth, z2, z4, g3, m1, m40, D, hn, k⟩ := h
    refine ⟨_, (pss_cons (ps_set (i := 3) sc_log.nd rfl (Or.inl rfl) (pe_call G_course (hr.mono (by omega)) (by rfl) T.g_course T.F_course.kp T.b_course .nil pass0 (pa_cons (pv 0) (pa_cons (pv 1) (pa_cons (pe_op op_add (pe_op op_add (pe_ix ix_tup (pv 1) pe_int (fun _ _ => rfl)) pe_int) (pv 2)) pa_nil)))))
      (pss_cons (ps_set (i := 4) sc_log.nd rfl (Or.inl rfl) (pe_lst pa_nil))
      (pss_cons (ps_for PassesOwn.never rfl (pi_range1 (by rfl) T.m_range (pa_cons (pe_call G_draw (hr.mono (by omega)) (by rfl) T.g_draw T.F_draw.kp T.b_draw .nil pass0 (pa_cons (pv 0) (pa_cons (pe_op op_add (pv 2) pe_int) pa_nil))) pa_nil)) (pg_name (i := 5) sc_log.nd rfl (Or.inl rfl))
        (pss_cons (ps_set (i := 6) sc_log.nd rfl (Or.inl rfl) (pe_call G_draw (hr.mono (by omega)) (by rfl) T.g_draw T.F_draw.kp T.b_draw .nil pass0 (pa_cons (pv 0) (pa_cons (pe_ix ix_tup (pv 1) pe_int (fun _ _ => rfl)) pa_nil))))
      (pss_cons (ps_set (i := 7) sc_log.nd rfl (Or.inl rfl) (pe_call G_names (hr.mono (by omega)) (by rfl) T.g_names T.F_names.kp T.b_names .nil pass0 (pa_cons (pv 1) (pa_cons (pv 3) (pa_cons (pe_op op_add (pe_ix ix_tup (pv 1) pe_int (fun _ _ => rfl)) (pv 5)) (pa_cons (pv 6) pa_nil))))))
      (pss_one (ps_if (pt_cut (PW.pt (pw_or (pt_cmpR (op_eqD hr.units) (pv 7) (pe_tup pa_nil) (nomark _)) (pw_or1 (pt_cmpR op_eq (pe_call G_draw (hr.mono (by omega)) (by rfl) T.g_draw T.F_draw.kp T.b_draw .nil pass0 (pa_cons (pv 0) (pa_cons pe_int pa_nil))) pe_int (nomark _))))))
        (pss_one (ps_expr (pe_bm PySem.F.plainAttrs_list PySem.F.slot_list_append PySem.F.type_list_append mt_append (pv 4) (pa_cons (pe_tup (pa_cons (pe_un un_neg pe_int) (pa_cons (pe_un un_neg pe_int) pa_nil))) pa_nil))))
        (pss_one (ps_expr (pe_bm PySem.F.plainAttrs_list PySem.F.slot_list_append PySem.F.type_list_append mt_append (pv 4) (pa_cons (pe_tup (pa_cons (pv 6) (pa_cons (pe_call G_oneT (hr.mono (by omega)) (by rfl) T.g_one T.F_one.kp T.b_one .nil pass0 (pa_cons (pv 0) (pa_cons (pv 7) pa_nil))) pa_nil))) pa_nil)))))))))
      (Evl.pss_cut (ps_if (PW.pt (pw_and (pt_cmpR (op_neD hr.units) (pv 4) (pe_lst pa_nil) (nomark _)) (pw_and1 (pt_cmpR op_eq (pe_call G_draw (hr.mono (by omega)) (by rfl) T.g_draw T.F_draw.kp T.b_draw .nil pass0 (pa_cons (pv 0) (pa_cons pe_int pa_nil))) pe_int (nomark _)))))
        (pss_cons (ps_set (i := 6) sc_log.nd rfl (Or.inl rfl) (pe_call G_draw (hr.mono (by omega)) (by rfl) T.g_draw T.F_draw.kp T.b_draw .nil pass0 (pa_cons (pv 0) (pa_cons (pe_ix ix_tup (pv 1) pe_int (fun _ _ => rfl)) pa_nil))))
      (pss_one (ps_asg (pe_tup (pa_cons (pv 6) (pa_cons (pe_op op_modN (pe_callTy (T := "int") call_int1 (by rfl) T.m_int (by decide +kernel) (pa_cons (pe_op op_add (pe_op op_add (pv 6) pe_int) (pe_call G_draw (hr.mono (by omega)) (by rfl) T.g_draw T.F_draw.kp T.b_draw .nil pass0 (pa_cons (pv 0) (pa_cons (pe_op op_sub (pe_ix ix_tup (pv 1) pe_int (fun _ _ => rfl)) pe_int) pa_nil)))) pa_nil)) (pe_ix ix_tup (pv 1) pe_int (fun _ _ => rfl))) pa_nil))) (pg_sub (pv 4) (pe_call G_draw (hr.mono (by omega)) (by rfl) T.g_draw T.F_draw.kp T.b_draw .nil pass0 (pa_cons (pv 0) (pa_cons (pe_callB (id := "len") call_len_seq (by rfl) T.m_len (by decide +kernel) (pa_cons (pv 4) pa_nil)) pa_nil))) set_list))))
        pss_nil)
      (pss_one (ps_ret (pe_callTy (T := "tuple") call_tuple_of (by rfl) T.m_tuple (by decide +kernel) (pa_cons (pv 4) pa_nil)))))))), ?_⟩
    have th0 : th ≠ p := D.ne_tup hth
    refine ⟨_, rfl, _, rfl, _, rfl, th, _, 2, _, rfl, rfl, SqT.of hth, rfl, _, _, rfl, rfl, _, rfl, _, _, rfl, rfl, p, th, z, r, g, _, n, rfl, hth, z2, z4, by show 1 ≤ (g : Int) + 1 + (many : Int); omega, by show (g : Int) + 1 + (many : Int) ≤ 100; omega, D, by omega, fun cs tc J1 n1 cl cz ck hc _ n1a n1b D1 K1 => ?_⟩
    have cl' : (cs.length : Int) = (g : Int) + 1 + (many : Int) := cl
    have tc0 : tc ≠ p := D1.ne_tup hc
    refine ⟨Nat.zero_le _, fun F hF => ?_⟩
    have FP : F ≠ p := D1.ne_new hF
    have D2 := D1.put hF (o := .lst [])
    have K2 := K1.trans (Keep.new hF (o := .lst []))
    have hF2 : upd J1 F (.lst []) F = some (.lst []) := upd_same
    have K12 : Keep p J1 (upd J1 F (.lst [])) := Keep.new hF
    have th2 := (Keep.new (p := p) hF (o := .lst [])).at th0 (K1.at th0 hth)
    have tc2 := (Keep.new (p := p) hF (o := .lst [])).at tc0 hc
    have thF : th ≠ F := fun e => by rw [e, hF2] at th2; cases th2
    have tcF : tc ≠ F := fun e => by rw [e, hF2] at tc2; cases tc2
    generalize upd J1 F (.lst []) = J2 at *
    refine ⟨_, rfl, _, rfl, _, _, rfl, rfl, p, (many : Int) + 1, n1, rfl, by omega, by omega, D2, by omega, fun m J3 m0 m1' D3 K3 => ⟨m, rfl, by omega, by omega, for_range (lo := 0) (n := m.toNat) (fun i σ J => LogAt K p th tc F (many : Int) z r (g : Int) cs J1 i (n1 + 1 + 3 * i) σ J) ⟨none, none, none, [], [], n1 + 1, rfl, Nat.zero_le _, K3.at FP hF2, K3.at th0 th2, K3.at tc0 tc2, .nil, fun q hq => (List.not_mem_nil hq).elim, by omega, D3, K12.trans K3⟩ ?_ ?_⟩⟩
    · rintro i σ J hi ⟨y5, y6, y7, ps, fs, n', rfl, lp, hJF, thJ, tcJ, al, inP, hn', DJ, KJ⟩
      have hi' : (i : Int) < m := by omega
      refine ⟨_, rfl, _, rfl, th, _, 0, _, rfl, rfl, SqT.of thJ, rfl, p, z, n', rfl, by omega, by omega, DJ, by omega, fun sv J4 sv0 sv1 D4 K4 => ?_⟩
      have th4 := K4.at th0 thJ
      have tc4 := K4.at tc0 tcJ
      refine ⟨_, rfl, _, rfl, _, rfl, th, _, 2, _, rfl, rfl, SqT.of th4, rfl, _, rfl, _, _, rfl, rfl, _, rfl, th, tc, z, r, sv, g, g + i, cs, (by show [V.ref th, V.ref tc, V.int ((g : Int) + (0 + (i : Int))), V.int sv] = _; rw [show ((g : Int) + (0 + (i : Int))) = ((g + i : Nat) : Int) by omega]), SqT.of th4, SqT.of tc4, by omega, by omega, by omega, by omega, fun out t J5 so lo S5 ht5 => ?_⟩
      have D5 := D4.of_same S5
      have K45 := K4.trans (Keep.of_same S5)
      have mem : ∀ x ∈ out, 0 ≤ x ∧ x < z := fun x hx => cz x (ahead_sub (by omega) (by omega) ((so.2 x).mp hx))
      refine ⟨fun b J' => (b = false → out ≠ []) ∧ ∃ n5, n5 ≤ n' + 2 ∧ Deck K J' p n5 ∧ Keep p J5 J', ?_, ?_⟩
      · refine ⟨_, rfl, Nat.zero_le _, fun q hq => ⟨.tuple (out.map PyData.int), .tuple [], .tup (sameT (same_new hq) (SqT.of ht5)) (ints_dp out), .tup (SqT.of upd_same) .nil, ints_shapedT out, by decide, _, rfl, ?_⟩⟩
        rw [nil_tup]
        refine ite2 (fun _ => ⟨fun e => (nomatch e), n' + 1, by omega, D5.put hq, Keep.new hq⟩) (fun ho => ?_)
        have o0 : out ≠ [] := fun e => by rw [e] at ho; exact ho rfl
        exact ⟨_, rfl, p, 4, n' + 1, rfl, by decide, by decide, D5.put hq, by omega, fun x J6 x0 x1 D6 K6 => ⟨rfl, _, rfl, fun _ => o0, n' + 2, by omega, D6, (Keep.new hq).trans K6⟩⟩
      · rintro b J6 ⟨hb, n6, hn6, D6, K6⟩
        have push : ∀ (J7 : Hp) (n7 : Nat) (x y : Int) (u : Addr) (σ : L2.St), σ = [some (.ref p), some (.ref th), some (.int (many : Int)), some (.ref tc), some (.ref F), some (.int (0 + (i : Int))), some (.int sv), some (.ref t)] → J7 u = none → n7 ≤ n' + 3 → Deck K J7 p n7 → Keep p J5 J7 → (-1 ≤ x ∧ x < z ∧ -1 ≤ y ∧ y < z) →
            (upd J7 u (.tup [.int x, .int y]) F = some (.lst fs)) ∧ fs.length < sizeLine ∧ LogAt K p th tc F (many : Int) z r (g : Int) cs J1 (i + 1) (n1 + 1 + 3 * (i + 1)) σ (upd (upd J7 u (.tup [.int x, .int y])) F (.lst (fs ++ [.ref u]))) := fun J7 n7 x y u σ es gu hn7 D7 K7 inq => by
          have K47 := K45.trans K7
          have F7 := K47.at FP hJF
          have up : u ≠ p := D7.ne_new gu
          have uF : u ≠ F := fun e => by rw [e, F7] at gu; cases gu
          have K8 := K47.trans (Keep.new gu (o := .tup [.int x, .int y]))
          have F8 := K8.at FP hJF
          have u8 : upd J7 u (.tup [.int x, .int y]) u = some (.tup [.int x, .int y]) := upd_same
          have D8 := D7.put gu (o := .tup [.int x, .int y])
          have th8 := K8.at th0 thJ
          have tc8 := K8.at tc0 tcJ
          generalize upd J7 u (.tup [.int x, .int y]) = J8 at *
          refine ⟨F8, small1000' (by rw [paired_len al]; omega), _, _, _, ps ++ [(x, y)], fs ++ [.ref u], n7, es, by rw [List.length_append, List.length_singleton]; omega, upd_same, by rw [upd_ne thF]; exact th8, by rw [upd_ne tcF]; exact tc8, ?_, inP.app (.one inq), by omega, D1.write hF (KJ.trans K8) D8, (KJ.trans K8).write hF FP⟩
          refine paired_snoc (al.mono fun v q ⟨b, e, b1, b2, hb⟩ => ⟨b, e, b1, b2, by rw [upd_ne b2]; exact K8.at b1 hb⟩) ⟨u, rfl, up, uF, by rw [upd_ne uF]; exact u8⟩
        have F6 : J6 F = some (.lst fs) := (K45.trans K6).at FP hJF
        cases b with
        | true =>
          refine iteT ⟨_, rfl, .inl ⟨rfl, _, SqL.of F6⟩, 1, rfl, 1, rfl, by show 2 ≤ sizeLine; decide, fun u gu => ?_⟩
          obtain ⟨h1, h2, h3⟩ := push J6 n6 (-1) (-1) u _ rfl gu (by omega) D6 K6 (by omega)
          exact ⟨F, fs, _, rfl, rfl, h1, h2, h3⟩
        | false =>
          have o0 := hb rfl
          have ol : 0 < out.length := List.length_pos_iff.mpr o0
          refine iteF ⟨_, rfl, .inl ⟨rfl, _, SqL.of F6⟩, _, rfl, _, rfl, _, rfl, p, t, out.map V.int, n6, rfl, SqT.of (K6.at (D5.ne_tup ht5) ht5), by rw [List.length_map]; exact ol, by rw [List.length_map]; omega, D6, by omega, fun j x J7 hx D7 K7 => ?_⟩
          obtain ⟨y, hy, rfl⟩ : ∃ y, out[j]? = some y ∧ x = .int y := by
            rw [List.getElem?_map] at hx
            cases e : out[j]? with
            | none => rw [e] at hx; cases hx
            | some y => rw [e] at hx; cases hx; exact ⟨y, rfl, rfl⟩
          have iny := mem y (List.mem_of_getElem? hy)
          refine ⟨by show 2 ≤ sizeLine; decide, fun u gu => ?_⟩
          obtain ⟨h1, h2, h3⟩ := push J7 (n6 + 1) sv y u _ rfl gu (by omega) D7 (K6.trans K7) (by omega)
          exact ⟨F, fs, _, rfl, rfl, h1, h2, h3⟩
    · rintro σ J ⟨y5, y6, y7, ps, fs, n', rfl, lp, hJF, thJ, tcJ, al, inP, hn', DJ, KJ⟩
      have lp' : ps.length ≤ many := by omega
      refine ⟨fun σ' J' => LogAt K p th tc F (many : Int) z r (g : Int) cs J1 many (n1 + 1 + 3 * many + 4) σ' J', ?_, ?_⟩
      · have base : ∀ (J6 : Hp) (n6 : Nat), n6 ≤ n' + 4 → Deck K J6 p n6 → Keep p J J6 → LogAt K p th tc F (many : Int) z r (g : Int) cs J1 many (n1 + 1 + 3 * many + 4) [some (.ref p), some (.ref th), some (.int (many : Int)), some (.ref tc), some (.ref F), y5, y6, y7] J6 := fun J6 n6 h6 D6 K6 =>
          ⟨y5, y6, y7, ps, fs, n6, rfl, lp', K6.at FP hJF, K6.at th0 thJ, K6.at tc0 tcJ, al.mono fun v q ⟨b, e, b1, b2, hb⟩ => ⟨b, e, b1, b2, K6.at b1 hb⟩, inP, by omega, D6, KJ.trans K6⟩
        refine ⟨_, rfl, Nat.zero_le _, fun q hq => ⟨.list (ps.map pairD), .list [], .lst (SqL.of (same_new hq _ _ hJF)) ?_, .lst (SqL.of upd_same) .nil, (pairs_shaped ps).1, by decide, _, rfl, ?_⟩⟩
        · exact dpAllSame off_in _ _ ((Keep.new (p := p) hq).all (pairs_dp al))
        rw [list_nil]
        refine ite2 (fun hne => ?_) (fun _ => base _ n' (by omega) (DJ.put hq) (Keep.new hq))
        have p0 : ps ≠ [] := fun e => by rw [e] at hne; cases hne
        have pl0 : 0 < ps.length := List.length_pos_iff.mpr p0
        refine ⟨_, rfl, p, 3, n', rfl, by decide, by decide, DJ.put hq, by omega, fun x J4 x0 x1 D4 K4 => ⟨rfl, _, rfl, ite2 (fun _ => ?_) (fun _ => base J4 (n' + 1) (by omega) D4 ((Keep.new hq).trans K4))⟩⟩
        have K04 : Keep p J J4 := (Keep.new hq).trans K4
        refine ⟨_, rfl, _, rfl, th, _, 0, _, rfl, rfl, SqT.of (K04.at th0 thJ), rfl, p, z, n' + 1, rfl, by omega, by omega, D4, by omega, fun sv J5 sv0 sv1 D5 K5 => ?_⟩
        have K05 := K04.trans K5
        refine ⟨_, rfl, _, rfl, _, _, rfl, rfl, _, rfl, _, rfl, th, _, 0, _, rfl, rfl, SqT.of (K05.at th0 thJ), rfl, _, _, rfl, rfl, p, z - 1, n' + 2, rfl, by omega, by omega, D5, by omega, fun x2 J6 x20 x21 D6 K6 => ?_⟩
        have K06 := K05.trans K6
        refine ⟨_, _, rfl, rfl, .inl ⟨_, rfl, _, rfl, th, _, 0, _, rfl, rfl, SqT.of (K06.at th0 thJ), rfl, _, _, rfl, rfl, by omega, by show 2 ≤ sizeLine; decide, fun u gu => ?_⟩⟩
        have f0 : 0 ≤ (sv + 1 + x2).fmod z := fmod_lo (by omega)
        have f1 : (sv + 1 + x2).fmod z < z := fmod_hi (by omega)
        have K07 := K06.trans (Keep.new gu (o := .tup [.int sv, .int ((sv + 1 + x2).fmod z)]))
        have D7 := D6.put gu (o := .tup [.int sv, .int ((sv + 1 + x2).fmod z)])
        have u7 : upd J6 u (.tup [.int sv, .int ((sv + 1 + x2).fmod z)]) u = some (.tup [.int sv, .int ((sv + 1 + x2).fmod z)]) := upd_same
        have up : u ≠ p := D6.ne_new gu
        have uF : u ≠ F := fun e => by rw [e, K06.at FP hJF] at gu; cases gu
        show gSub (tVar 4) _ rSetL (V.ref u) _ (upd J6 u (.tup [.int sv, .int ((sv + 1 + x2).fmod z)])) _
        generalize upd J6 u (.tup [.int sv, .int ((sv + 1 + x2).fmod z)]) = J7 at *
        have lfp := paired_len al
        refine ⟨_, rfl, _, rfl, _, rfl, F, fs, rfl, .inl (SqL.of (K07.at FP hJF)), p, _, n' + 3, rfl, by omega, by omega, D7, by omega, fun y J8 y0 y1 D8 K8 => ?_⟩
        obtain ⟨j, rfl⟩ : ∃ j : Nat, y = (j : Int) := ⟨y.toNat, (Int.toNat_of_nonneg y0).symm⟩
        have hj : j < fs.length := by omega
        have K08 := K07.trans K8
        refine ⟨F, fs, (j : Int), j, rfl, rfl, K08.at FP hJF, ?_, ?_⟩
        · exact Evl.ixN_nat hj
        refine ⟨y5, _, y7, ps.set j (sv, (sv + 1 + x2).fmod z), fs.set j (.ref u), n' + 4, rfl, by rw [List.length_set]; omega, upd_same, by rw [upd_ne thF]; exact K08.at th0 thJ, by rw [upd_ne tcF]; exact K08.at tc0 tcJ, ?_, pairsIn_set (by omega) j inP, by omega, D1.write hF (KJ.trans K08) D8, (KJ.trans K08).write hF FP⟩
        exact paired_set j (al.mono fun v q ⟨b, e, b1, b2, hb⟩ => ⟨b, e, b1, b2, by rw [upd_ne b2]; exact K08.at b1 hb⟩) ⟨u, rfl, up, uF, by rw [upd_ne uF]; exact K8.at up u7⟩
      · rintro σ' J' ⟨y5, y6, y7, ps, fs, n', rfl, lp, hJF, thJ, tcJ, al, inP, hn', DJ, KJ⟩
        refine ⟨_, rfl, F, fs, rfl, .inl ⟨SqL.of hJF, fun t ht => ?_⟩⟩
        exact k ps t fs _ n' lp inP (SqT.of upd_same) ((Keep.new ht).all (pairs_dp al)) (by omega) (DJ.put ht) ((K1.trans KJ).trans (Keep.new ht))
end

theorem dp_rep {K : PySem.W.Frag} {H : Hp} {v : V} {d : PyData} (h : Dp K H v d) : ∀ m : Nat, DpAll K H (List.replicate m v) (List.replicate m d)
  | 0 => .nil
  | m + 1 => .cons h (dp_rep h m)
theorem log_tiny {z : Int} (z4 : z ≤ 4) {ps : List (Int × Int)} (h : PairsIn z ps) (l : ps.length ≤ 40) : Tiny 143 600 20 (.tuple (ps.map pairD)) ∧ Tiny 143 600 20 (.list (ps.map pairD)) := by
  have w : wtAll (ps.map pairD) = 3 * ps.length := by
    clear h l
    induction ps with
    | nil => rfl
    | cons q r ih => simp only [List.map_cons, wtAll, wt, pairD, ih, List.length_cons]; omega
  have q := tiny_tup (e := 143) (W := 600) (m := 1) (ds := ps.map pairD) (fun d hd => by
    obtain ⟨q, hq, rfl⟩ := List.mem_map.mp hd
    have i := h q hq
    refine ⟨?_, by simp [pairD, PyData.depth, PyData.depthAll]⟩
    simp only [pairD, nice, niceAll, Bool.and_eq_true]
    exact ⟨by simpa only [nice] using nice_int (e := 143) (by decide) (by omega), by simpa only [nice] using nice_int (e := 143) (by decide) (by omega), trivial⟩) (by rw [w]; omega)
  exact ⟨q.1.mono (Nat.le_refl _) (Nat.le_refl _) (by decide), q.2.mono (Nat.le_refl _) (Nat.le_refl _) (by decide)⟩
theorem log_low {z : Int} (z4 : z ≤ 4) {ps : List (Int × Int)} (h : PairsIn z ps) : nice 140 (.tuple (ps.map pairD)) = true ∧ wt (.tuple (ps.map pairD)) = 1 + 3 * ps.length ∧ PyData.depth (.tuple (ps.map pairD)) ≤ 2 := by
  refine ⟨?_, ?_, ?_⟩
  · simp only [nice]
    refine niceAll_iff.mpr fun d hd => ?_
    obtain ⟨q, hq, rfl⟩ := List.mem_map.mp hd
    have i := h q hq
    simp only [pairD, nice, niceAll, Bool.and_eq_true]
    exact ⟨by simpa only [nice] using nice_int (e := 140) (by decide) (by omega), by simpa only [nice] using nice_int (e := 140) (by decide) (by omega), trivial⟩
  · have w : wtAll (ps.map pairD) = 3 * ps.length := by
      clear h
      induction ps with
      | nil => rfl
      | cons q r ih => simp only [List.map_cons, wtAll, wt, pairD, ih, List.length_cons]; omega
    simp only [wt, w]
  · have : PyData.depthAll (ps.map pairD) ≤ 1 := depthAll_le.mpr fun d hd => by
      obtain ⟨q, hq, rfl⟩ := List.mem_map.mp hd
      simp [pairD, PyData.depth, PyData.depthAll]
    simp only [PyData.depth]
    omega
theorem mix_tiny {z : Int} (z4 : z ≤ 4) {ps : List (Int × Int)} (h : PairsIn z ps) (l : ps.length ≤ 40) {j : Nat} {d : PyData} (n1 : nice 140 d = true) (w1 : wt d ≤ 4) (d1 : d.depth ≤ 1) : Tiny 143 600 20 (.tuple ((ps.map pairD).take j ++ [d] ++ (ps.map pairD).drop j)) := by
  have t := (log_tiny z4 h l).1
  have w : wtAll (ps.map pairD) ≤ 3 * ps.length := by
    clear h l t
    induction ps with
    | nil => exact Nat.le_refl _
    | cons q r ih => simp only [List.map_cons, wtAll, wt, pairD, List.length_cons]; omega
  have each : ∀ e ∈ ps.map pairD, nice 143 e = true ∧ e.depth ≤ 1 := fun e he => by
    obtain ⟨q, hq, rfl⟩ := List.mem_map.mp he
    have i := h q hq
    refine ⟨?_, by simp [pairD, PyData.depth, PyData.depthAll]⟩
    simp only [pairD, nice, niceAll, Bool.and_eq_true]
    exact ⟨by simpa only [nice] using nice_int (e := 143) (by decide) (by omega), by simpa only [nice] using nice_int (e := 143) (by decide) (by omega), trivial⟩
  have q := tiny_tup (e := 143) (W := 600) (m := 1) (ds := (ps.map pairD).take j ++ [d] ++ (ps.map pairD).drop j) (fun e he => by
    rcases List.mem_append.mp he with he | he
    · rcases List.mem_append.mp he with he | he
      · exact each e (List.mem_of_mem_take he)
      · rw [List.mem_singleton.mp he]
        exact ⟨nice_more (by decide) _ n1, d1⟩
    · exact each e (List.mem_of_mem_drop he)) (by
    have a := wt_take (ps.map pairD) j
    have b := wt_drop (ps.map pairD) j
    rw [wtAll_append, wtAll_append]
    simp only [wtAll]
    omega)
  exact q.1.mono (Nat.le_refl _) (Nat.le_refl _) (by decide)
section
variable {P : Program} {w : World} {K : PySem.W.Frag} {mg : Str → Option Value}
theorem law_does (T : Txt K mg) {f : Addr} : LawDoes P w K mg s_law ["_law_script", "_law_deck_here", "_law_turn", "_law_house_here", "_law_log_here", "_law_full", "_law_odd_here", "_law_at", "_law_some", "_law_thing", "_law_k", "_law_one_here", "_law_held"] f := by
  intro base cdv s H a ns h63 hS
  have hr := room_law (envOfC "law" (defScope s_law) s.heap.objs.size f cdv)
  have G_deck : FnOk P w K mg base CX0 1 T.a_deck T.d_deck ["_law_script"] (sp_deck K) := ok_deck T
  have G_draw : FnOk P w K mg base CX0 1 T.a_draw T.d_draw ["_law_deck_here", "_law_many"] (sp_draw K) := ok_draw T
  have G_one : FnOk P w K mg base CX0 2 T.a_one T.d_one ["_law_deck_here", "_law_items"] (sp_one K) := ok_one T
  have G_house : FnOk P w K mg base CX0 3 T.a_house T.d_house ["_law_deck_here", "_law_room"] (sp_house K) := ok_house T
  have G_log : FnOk P w K mg base CX0 4 T.a_log T.d_log ["_law_deck_here", "_law_house_here", "_law_many"] (sp_log K) := ok_log T
  have G_odd : FnOk P w K mg base CX0 3 T.a_odd T.d_odd ["_law_deck_here"] (sp_odd K) := ok_odd T
  have G_bent : FnOk P w K mg base CX0 7 T.a_bent T.d_bent ["_law_deck_here", "_law_thing", "_law_deep"] (sp_bent K 4) := ok_bent T 4
  have G_is_log : FnOk P w K mg base CX0 4 T.a_is_log T.d_is_log ["house", "value"] (sp_islog K) := ok_islog T
  have G_due : FnOk P w K mg base CX0 1 T.a_due T.d_due ["_law_house_here", "_law_thing"] (sp_islog K) := ok_ldue T
  refine ⟨_, (pss_cons (ps_set (i := 1) sc_law.nd rfl (Or.inl rfl) (pe_call G_deck (hr.mono (by omega)) (by rfl) T.g_deck T.F_deck.kp T.b_deck .nil pass0 (pa_cons (pv 0) pa_nil)))
      (pss_cons (ps_for PassesOwn.never rfl (pi_range1 (by rfl) T.m_range (pa_cons pe_int pa_nil)) (pg_name (i := 2) sc_law.nd rfl (Or.inl rfl))
        (pss_cons (ps_set (i := 3) sc_law.nd rfl (Or.inl rfl) (pe_call G_house (hr.mono (by omega)) (by rfl) T.g_house T.F_house.kp T.b_house .nil pass0 (pa_cons (pv 1) (pa_cons pe_int pa_nil))))
      (pss_cons (ps_set (i := 4) sc_law.nd rfl (Or.inl rfl) (pe_call G_log (hr.mono (by omega)) (by rfl) T.g_log T.F_log.kp T.b_log .nil pass0 (pa_cons (pv 1) (pa_cons (pv 3) (pa_cons pe_int pa_nil)))))
      (pss_cons (ps_set (i := 5) sc_law.nd rfl (Or.inl rfl) (pe_slice sl_tupS (pe_op op_catS (pv 4) (pe_op op_repOne (pe_tup (pa_cons (pe_tup (pa_cons (pe_un un_neg pe_int) (pa_cons (pe_un un_neg pe_int) pa_nil))) pa_nil)) pe_int)) po_none (po_some pe_int)))
      (pss_cons (ps_set (i := 6) sc_law.nd rfl (Or.inl rfl) (pe_call G_one (hr.mono (by omega)) (by rfl) T.g_one T.F_one.kp T.b_one .nil pass0 (pa_cons (pv 1) (pa_cons (pe_lst (pa_cons (pe_tup (pa_cons pe_int (pa_cons pe_int pa_nil))) (pa_cons (pe_tup (pa_cons (pe_un un_neg pe_int) (pa_cons pe_int pa_nil))) (pa_cons (pe_tup (pa_cons pe_int (pa_cons (pe_un un_neg pe_int) pa_nil))) (pa_cons (pe_tup (pa_cons (pe_ix ix_tup (pv 3) pe_int (fun _ _ => rfl)) (pa_cons pe_int pa_nil))) (pa_cons (pe_tup (pa_cons pe_int (pa_cons (pe_ix ix_tup (pv 3) pe_int (fun _ _ => rfl)) pa_nil))) (pa_cons (pe_tup (pa_cons pe_int (pa_cons pe_int (pa_cons pe_int pa_nil)))) (pa_cons (pe_tup (pa_cons pe_bl (pa_cons pe_int pa_nil))) (pa_cons (pe_lst (pa_cons pe_int (pa_cons pe_int pa_nil))) pa_nil))))))))) pa_nil))))
      (pss_cons (ps_set (i := 7) sc_law.nd rfl (Or.inl rfl) (pe_call G_draw (hr.mono (by omega)) (by rfl) T.g_draw T.F_draw.kp T.b_draw .nil pass0 (pa_cons (pv 1) (pa_cons (pe_op op_add (pe_callB (id := "len") call_len_seq (by rfl) T.m_len (by decide +kernel) (pa_cons (pv 4) pa_nil)) pe_int) pa_nil))))
      (pss_cons (ps_set (i := 8) sc_law.nd rfl (Or.inl rfl) (pe_lst (pa_cons (pv 4) (pa_cons (pv 5) (pa_cons (pe_op op_catS (pv 5) (pe_tup (pa_cons (pe_tup (pa_cons (pe_un un_neg pe_int) (pa_cons (pe_un un_neg pe_int) pa_nil))) pa_nil))) (pa_cons (pe_op op_catS (pe_op op_catS (pe_slice sl_tupS (pv 4) po_none (po_some (pv 7))) (pe_tup (pa_cons (pv 6) pa_nil))) (pe_slice sl_tupS (pv 4) (po_some (pv 7)) po_none)) (pa_cons (pe_callTy (T := "list") call_list_of (by rfl) T.m_list (by decide +kernel) (pa_cons (pv 4) pa_nil)) (pa_cons (pe_tup pa_nil) (pa_cons (pe_call G_odd (hr.mono (by omega)) (by rfl) T.g_odd T.F_odd.kp T.b_odd .nil pass0 (pa_cons (pv 1) pa_nil)) pa_nil)))))))))
      (pss_cons (ps_set (i := 9) sc_law.nd rfl (Or.inl rfl) (pv 4))
      (pss_cons (ps_for PassesOwn.never rfl (pi_range1 (by rfl) T.m_range (pa_cons (pe_op op_add pe_int (pe_call G_draw (hr.mono (by omega)) (by rfl) T.g_draw T.F_draw.kp T.b_draw .nil pass0 (pa_cons (pv 1) (pa_cons pe_int pa_nil)))) pa_nil)) (pg_name (i := 10) sc_law.nd rfl (Or.inl rfl))
        (pss_one (ps_set (i := 9) sc_law.nd rfl (Or.inl rfl) (pe_call G_bent (hr.mono (by omega)) (by rfl) T.g_bent T.F_bent.kp T.b_bent .nil pass0 (pa_cons (pv 1) (pa_cons (pv 9) (pa_cons (pe_op op_add pe_int (pe_call G_draw (hr.mono (by omega)) (by rfl) T.g_draw T.F_draw.kp T.b_draw .nil pass0 (pa_cons (pv 1) (pa_cons pe_int pa_nil)))) pa_nil)))))))
      (pss_one (ps_for PassesOwn.never rfl (pi_list (pe_op op_cat (pv 8) (pe_lst (pa_cons (pv 9) pa_nil)))) (pg_name (i := 11) sc_law.nd rfl (Or.inl rfl))
        (pss_cons (ps_set (i := 12) sc_law.nd rfl (Or.inl rfl) (pe_callB (id := "repr") (call_show rfl (by show 7 + 64 < cLine; decide)) (by rfl) T.m_repr (by decide +kernel) (pa_cons (pe_lst (pa_cons (pv 3) (pa_cons (pv 11) pa_nil))) pa_nil)))
      (pss_one (ps_if (PW.pt (pw_or (pt_cmpR op_ne (pe_callB (id := "repr") (call_show rfl (by show 7 + 64 < cLine; decide)) (by rfl) T.m_repr (by decide +kernel) (pa_cons (pe_call G_is_log (hr.mono (by omega)) (by rfl) T.g_is_log T.F_is_log.kp T.b_is_log .nil pass0 (pa_cons (pv 3) (pa_cons (pv 11) pa_nil))) pa_nil)) (pe_callB (id := "repr") (call_show rfl (by show 7 + 64 < cLine; decide)) (by rfl) T.m_repr (by decide +kernel) (pa_cons (pe_call G_due (hr.mono (by omega)) (by rfl) T.g_due T.F_due.kp T.b_due .nil pass0 (pa_cons (pv 3) (pa_cons (pv 11) pa_nil))) pa_nil)) (nomark _)) (pw_or1 (pt_cmpR op_ne (pe_callB (id := "repr") (call_show rfl (by show 7 + 64 < cLine; decide)) (by rfl) T.m_repr (by decide +kernel) (pa_cons (pe_lst (pa_cons (pv 3) (pa_cons (pv 11) pa_nil))) pa_nil)) (pv 12) (nomark _)))))
        (pss_one (ps_ret pe_bl))
        pss_nil))))))))))))))
      (pss_one (ps_ret pe_bl)))), ?_⟩
  refine ⟨_, rfl, a, ns, rfl, hS, h63, fun p H1 D1 S1 hp => ?_⟩
  refine ⟨8, rfl, by show -(2 ^ 62) ≤ (8 : Int); decide, by show (8 : Int) < 2 ^ 62; decide, for_range (lo := 0) (n := 8) (fun i σ H' => ∃ y2 y3 y4 y5 y6 y7 y8 y9 y10 y11 y12, σ = [some (.ref a), some (.ref p), y2, y3, y4, y5, y6, y7, y8, y9, y10, y11, y12] ∧ ∃ n, n ≤ 400 * i ∧ Deck K H' p n) ⟨none, none, none, none, none, none, none, none, none, none, none, rfl, 0, by omega, D1⟩ ?_ ?_⟩
  · rintro i σ H2 hi ⟨y2, y3, y4, y5, y6, y7, y8, y9, y10, y11, y12, rfl, n, hn, D2⟩
    refine ⟨_, rfl, p, 81, n, rfl, by decide, D2, by omega, fun z r g th H3 hH ht h0 D3 K3 => ?_⟩
    have th0 : th ≠ p := D3.ne_tup ht
    obtain ⟨z2, z4, r1, r6, g0, g3, _⟩ := hH
    obtain ⟨g, rfl⟩ : ∃ g' : Nat, g = (g' : Int) := ⟨g.toNat, (Int.toNat_of_nonneg g0).symm⟩
    refine ⟨_, rfl, _, rfl, p, th, z, r, g, 12, n + 4, rfl, ht, z2, z4, by omega, by decide, by decide, D3, by omega, fun ps t fs H4 n4 lp inP st4 al4 hn4 D4 K4 => ?_⟩
    have ht4 := K4.at th0 ht
    have lfp : fs.length = ps.length := by rw [dpAll_len al4, List.length_map]
    have big : ∀ {q : Nat}, q ≤ 9000 → q ≤ sizeLine := fun h => Nat.le_trans h (by decide)
    -- the full one
    have A0 : Acc K p n4 H4 H4 [.ref t] [.tuple (ps.map pairD)] := ⟨D4, .cons (dt_of D4 st4 al4) .nil, Keep.refl p H4⟩
    have stOf : ∀ J, Keep p H4 J → SqT K J t fs := fun J k => D4.sqt k st4
    have htOf : ∀ J, Keep p H4 J → SqT K J th [.int z, .int r, .int (g : Int)] := fun J k => SqT.of (k.at th0 ht4)
    refine ⟨_, rfl, 1, rfl, 1, rfl, by show 2 ≤ sizeLine; decide, fun u1 gu1 => ⟨by show 1 ≤ sizeLine; decide, fun u2 gu2 => ⟨u2, 31, _, rfl, rfl, SqT.of upd_same, by decide, by decide, fun u3 gu3 => ?_⟩⟩⟩
    have A1 := A0.new gu1 (o := .tup [.int (-1), .int (-1)])
    have du1 := dt_tup (A0.dk.ne_new gu1) gu1 (K := K) (p := p) (vs := [.int (-1), .int (-1)]) (ds := [.int (-1), .int (-1)]) (.cons (.int _) (.cons (.int _) .nil))
    have A2 := A1.new gu2 (o := .tup [.ref u1])
    have A3 := A2.new gu3 (o := .tup (List.replicate (31 : Int).toNat (V.ref u1)))
    have K13 := (Keep.new (p := p) gu2 (o := .tup [.ref u1])).trans (Keep.new gu3 (o := .tup (List.replicate (31 : Int).toNat (V.ref u1))))
    have du3 := K13.dt du1
    have h3 : SqT K (upd (upd (upd H4 u1 (.tup [.int (-1), .int (-1)])) u2 (.tup [.ref u1])) u3 (.tup (List.replicate (31 : Int).toNat (V.ref u1)))) u3 (List.replicate 31 (V.ref u1)) := SqT.of upd_same
    refine ⟨t, u3, _, _, rfl, rfl, stOf _ A3.kp, h3, big (by rw [List.length_replicate]; omega), fun q1 J1 e1 s1 => ?_⟩
    have A4 := A3.same s1
    have du4 := (Keep.of_same (p := p) s1).dt du3
    clear h3 A1 A2 A3 K13 du1 du3
    refine ⟨30, rfl, q1, _, rfl, e1, fun qf J2 e2 s2 => ?_⟩
    have A5 := A4.same s2
    have du5 := (Keep.of_same (p := p) s2).dt du4
    obtain ⟨qs, eqs⟩ : ∃ qs : List (Int × Int), qs = (ps ++ List.replicate 31 (-1, -1)).take 30 := ⟨_, rfl⟩
    have inQ : PairsIn z qs := by
      rw [eqs]
      exact PairsIn.take (inP.app fun q hq => by rw [List.eq_of_mem_replicate hq]; exact ⟨by decide, by omega, by decide, by omega⟩) 30
    have lq : qs.length ≤ 30 := by rw [eqs, List.length_take]; omega
    obtain ⟨xf, exf⟩ : ∃ xf, xf = cutV (fs ++ List.replicate 31 (V.ref u1)) none (some (30 : Int)) := ⟨_, rfl⟩
    rw [← exf] at e2
    have alf : ∀ J, Keep p J2 J → DpAll K (off p J) xf (qs.map pairD) := fun J k => by
      have ct : cutV (fs ++ List.replicate 31 (V.ref u1)) none (some (30 : Int)) = (fs ++ List.replicate 31 (V.ref u1)).take 30 := cut_to _ 30 (by rw [List.length_append, List.length_replicate]; omega)
      rw [exf, ct, eqs, List.map_take, List.map_append, List.map_replicate]
      exact dpAll_take 30 (dpAll_append ((A5.kp.trans k).all al4) (dp_rep (k.dt du5) 31))
    have xfOf : ∀ J, Keep p J2 J → SqT K J qf xf := fun J k => A5.dk.sqt k e2
    have lxf : xf.length ≤ 30 := by have := dpAll_len (alf _ (Keep.refl p J2)); rw [List.length_map] at this; omega
    have A6 := A5.add (dt_of A5.dk e2 (alf _ (Keep.refl p J2)))
    clear du4 du5 A4 A5
    -- an odd pair
    have two : (2 : Nat) ≤ sizeLine := by decide
    have B0 : Acc K p n4 J2 J2 [] [] := ⟨A6.dk, .nil, Keep.refl p J2⟩
    have K42 := A6.kp
    refine ⟨_, rfl, two, fun w1 g1 => ?_⟩
    have B1 := (B0.new g1 (o := .tup [.int 0, .int 0])).add (dt_tup (B0.dk.ne_new g1) g1 (.cons (.int 0) (.cons (.int 0) .nil)))
    refine ⟨1, rfl, two, fun w2 g2 => ?_⟩
    have B2 := (B1.new g2 (o := .tup [.int (-1), .int 0])).add (dt_tup (B1.dk.ne_new g2) g2 (.cons (.int (-1)) (.cons (.int 0) .nil)))
    refine ⟨1, rfl, two, fun w3 g3' => ?_⟩
    have B3 := (B2.new g3' (o := .tup [.int 0, .int (-1)])).add (dt_tup (B2.dk.ne_new g3') g3' (.cons (.int 0) (.cons (.int (-1)) .nil)))
    refine ⟨_, rfl, th, _, 0, _, rfl, rfl, htOf _ (K42.trans B3.kp), rfl, two, fun w4 g4 => ?_⟩
    have B4 := (B3.new g4 (o := .tup [.int z, .int 0])).add (dt_tup (B3.dk.ne_new g4) g4 (.cons (.int z) (.cons (.int 0) .nil)))
    refine ⟨_, rfl, th, _, 0, _, rfl, rfl, htOf _ (K42.trans B4.kp), rfl, two, fun w5 g5 => ?_⟩
    have B5 := (B4.new g5 (o := .tup [.int 0, .int z])).add (dt_tup (B4.dk.ne_new g5) g5 (.cons (.int 0) (.cons (.int z) .nil)))
    refine ⟨by show 3 ≤ sizeLine; decide, fun w6 g6 => ?_⟩
    have B6 := (B5.new g6 (o := .tup [.int 0, .int 1, .int 0])).add (dt_tup (B5.dk.ne_new g6) g6 (.cons (.int 0) (.cons (.int 1) (.cons (.int 0) .nil))))
    refine ⟨two, fun w7 g7 => ?_⟩
    have B7 := (B6.new g7 (o := .tup [.bl true, .int 0])).add (dt_tup (B6.dk.ne_new g7) g7 (.cons (.bl true) (.cons (.int 0) .nil)))
    refine ⟨two, fun w8 g8 => ?_⟩
    have B8 := (B7.new g8 (o := .lst [.int 0, .int 1])).add (dt_lst (B7.dk.ne_new g8) g8 (.cons (.int 0) (.cons (.int 1) .nil)))
    refine ⟨by show 8 ≤ sizeLine; decide, fun l gl => ?_⟩
    have B9 := B8.new gl (o := .lst [.ref w1, .ref w2, .ref w3, .ref w4, .ref w5, .ref w6, .ref w7, .ref w8])
    have l0 := B8.dk.ne_new gl
    have hl : SqL K (upd (upd (upd (upd (upd (upd (upd (upd (upd J2 w1 (.tup [.int 0, .int 0])) w2 (.tup [.int (-1), .int 0])) w3 (.tup [.int 0, .int (-1)])) w4 (.tup [.int z, .int 0])) w5 (.tup [.int 0, .int z])) w6 (.tup [.int 0, .int 1, .int 0])) w7 (.tup [.bl true, .int 0])) w8 (.lst [.int 0, .int 1])) l (.lst [.ref w1, .ref w2, .ref w3, .ref w4, .ref w5, .ref w6, .ref w7, .ref w8])) l [.ref w1, .ref w2, .ref w3, .ref w4, .ref w5, .ref w6, .ref w7, .ref w8] := SqL.of upd_same
    refine ⟨p, l, _, n4, rfl, hl, l0, by show 0 < 8; decide, by show 8 < 100000; decide, B9.dk, by omega, fun oi ov J5 hov D5 K5 => ?_⟩
    have KB9 := B9.kp
    have alB : DpAll K (off p _) [.ref w1, .ref w2, .ref w3, .ref w4, .ref w5, .ref w6, .ref w7, .ref w8] [.tuple [.int 0, .int 0], .tuple [.int (-1), .int 0], .tuple [.int 0, .int (-1)], .tuple [.int z, .int 0], .tuple [.int 0, .int z], .tuple [.int 0, .int 1, .int 0], .tuple [.bool true, .int 0], .list [.int 0, .int 1]] := B9.al
    obtain ⟨od, hod, dO⟩ := dpAll_get alB hov
    have dO5 := K5.dt dO
    have K45 : Keep p H4 J5 := (K42.trans KB9).trans K5
    have K25 : Keep p J2 J5 := KB9.trans K5
    have tO : nice 140 od = true ∧ wt od ≤ 4 ∧ od.depth ≤ 1 := by
      have m := List.mem_of_getElem? hod
      simp only [List.mem_cons, List.not_mem_nil, or_false] at m
      have i1 : ∀ x : Int, x.natAbs ≤ 1000 → nice 140 (.int x) = true := fun x h => nice_int (by decide) h
      rcases m with m | m | m | m | m | m | m | m <;> rw [m] <;> refine ⟨?_, by simp [wt, wtAll], by simp [PyData.depth, PyData.depthAll]⟩ <;> simp only [nice, niceAll, Bool.and_eq_true]
      · exact ⟨by simpa only [nice] using i1 _ (by decide), by simpa only [nice] using i1 _ (by decide), trivial⟩
      · exact ⟨by simpa only [nice] using i1 _ (by decide), by simpa only [nice] using i1 _ (by decide), trivial⟩
      · exact ⟨by simpa only [nice] using i1 _ (by decide), by simpa only [nice] using i1 _ (by decide), trivial⟩
      · exact ⟨by simpa only [nice] using i1 z (by omega), by simpa only [nice] using i1 _ (by decide), trivial⟩
      · exact ⟨by simpa only [nice] using i1 _ (by decide), by simpa only [nice] using i1 z (by omega), trivial⟩
      · exact ⟨by simpa only [nice] using i1 _ (by decide), by simpa only [nice] using i1 _ (by decide), by simpa only [nice] using i1 _ (by decide), trivial⟩
      · exact ⟨trivial, by simpa only [nice] using i1 _ (by decide), trivial⟩
      · exact ⟨by simpa only [nice] using i1 _ (by decide), by simpa only [nice] using i1 _ (by decide), trivial⟩
    clear B0 B1 B2 B3 B4 B5 B6 B7 B8 B9 hl alB dO hov K5 KB9
    -- a place
    have st5 := stOf _ K45
    refine ⟨_, rfl, _, rfl, t, fs, rfl, .inr st5, _, _, rfl, rfl, p, (fs.length : Int) + 1, n4 + 1, rfl, by omega, by omega, D5, by omega, fun at_ J6 a0 a1 D6 K6 => ?_⟩
    obtain ⟨j, rfl⟩ : ∃ j : Nat, at_ = (j : Int) := ⟨at_.toNat, (Int.toNat_of_nonneg a0).symm⟩
    have hj : j ≤ fs.length := by omega
    have K26 := K25.trans K6
    have K46 := K45.trans K6
    -- the seven
    have C0 : Acc K p (n4 + 2) J6 J6 [.ref t, .ref qf] [.tuple (ps.map pairD), .tuple (qs.map pairD)] := ⟨D6, .cons (dt_of D6 (stOf _ K46) (K46.all al4)) (.cons (dt_of D6 (xfOf _ K26) (alf _ K26)) .nil), Keep.refl p J6⟩
    refine ⟨_, rfl, _, rfl, _, rfl, 1, rfl, 1, rfl, two, fun v1 h1 => ⟨by show 1 ≤ sizeLine; decide, fun v2 h2 => ?_⟩⟩
    have dv1 := dt_tup (C0.dk.ne_new h1) h1 (K := K) (p := p) (vs := [.int (-1), .int (-1)]) (ds := [.int (-1), .int (-1)]) (.cons (.int _) (.cons (.int _) .nil))
    have C1 := C0.new h1 (o := .tup [.int (-1), .int (-1)])
    have C2 := C1.new h2 (o := .tup [.ref v1])
    have dv2 := (Keep.new (p := p) h2 (o := .tup [.ref v1])).dt dv1
    refine ⟨qf, v2, _, _, rfl, rfl, xfOf _ (K26.trans C2.kp), SqT.of upd_same, big (by rw [List.length_singleton]; omega), fun q3 J7 e3 s3 => ?_⟩
    have C3' := C2.same s3
    have C3 := C3'.add (dt_of C3'.dk e3 (dpAll_append (alf _ (K26.trans C3'.kp)) (.cons ((Keep.of_same s3).dt dv2) .nil)))
    clear C1 C2 C3' dv1 dv2
    refine ⟨_, rfl, _, rfl, _, rfl, t, fs, rfl, stOf _ (K46.trans C3.kp), fun q4 J8 c4 s4 => ?_⟩
    rw [cut_to fs j hj] at c4
    have C4 := C3.same s4
    refine ⟨_, rfl, by show 1 ≤ sizeLine; decide, fun q5 g5' => ?_⟩
    have C5 := C4.new g5' (o := .tup [ov])
    refine ⟨q4, q5, _, _, rfl, rfl, sameT (same_new g5') c4, SqT.of upd_same, big (by rw [List.length_take, List.length_singleton]; omega), fun q6 J9 c6 s6 => ?_⟩
    have C6 := C5.same s6
    refine ⟨_, rfl, _, rfl, _, rfl, t, fs, rfl, stOf _ (K46.trans C6.kp), fun q7 J10 c7 s7 => ?_⟩
    rw [cut_from fs j hj] at c7
    have C7 := C6.same s7
    refine ⟨q6, q7, _, _, rfl, rfl, sameT s7 c6, c7, big (by rw [List.length_append, List.length_take, List.length_singleton, List.length_drop]; omega), fun q8 J11 c8 s8 => ?_⟩
    have C8' := C7.same s8
    have C8 := C8'.add (dt_of C8'.dk c8 (dpAll_append (dpAll_append (dpAll_take j ((K46.trans C8'.kp).all al4)) (.cons ((K6.trans C8'.kp).dt dO5) .nil)) (dpAll_drop j ((K46.trans C8'.kp).all al4))))
    clear C3 C4 C5 C6 C7 C8'
    refine ⟨_, rfl, t, fs, rfl, .inr (stOf _ (K46.trans C8.kp)), fun q10 g10 => ?_⟩
    have C9 := (C8.new g10 (o := .lst fs)).add (dt_lst (C8.dk.ne_new g10) g10 ((K46.trans C8.kp).all al4))
    refine ⟨by show 0 ≤ sizeLine; decide, fun q11 g11 => ?_⟩
    have C10 := (C9.new g11 (o := .tup [])).add (dt_tup (C9.dk.ne_new g11) g11 .nil)
    refine ⟨_, rfl, p, n4 + 2, rfl, C10.dk, by omega, fun vo do' J12 hdo tdo D12 K12 => ?_⟩
    have C11 := (C10.keep K12 D12).add hdo
    refine ⟨by show 7 ≤ sizeLine; decide, fun L gL => ?_⟩
    have L0 := C11.dk.ne_new gL
    have C12 := C11.new gL (o := .lst [.ref t, .ref qf, .ref q3, .ref q8, .ref q10, .ref q11, vo])
    have hL : upd J12 L (.lst [.ref t, .ref qf, .ref q3, .ref q8, .ref q10, .ref q11, vo]) L = some (.lst [.ref t, .ref qf, .ref q3, .ref q8, .ref q10, .ref q11, vo]) := upd_same
    clear C8 C9 C10 C11
    refine ⟨_, rfl, ?_⟩
    generalize upd J12 L (.lst [.ref t, .ref qf, .ref q3, .ref q8, .ref q10, .ref q11, vo]) = H6 at C12 hL ⊢
    -- the bent one
    obtain ⟨tl1, tl2, tl3⟩ := log_low z4 inP
    refine ⟨_, rfl, p, 3, n4 + 3, rfl, by decide, by decide, C12.dk, by omega, fun m J13 m0 m4 D13 K13 => ⟨_, _, rfl, rfl, ?_⟩⟩
    have K6J : Keep p J6 J13 := C12.kp.trans K13
    have K4J : Keep p H4 J13 := K46.trans K6J
    refine ⟨1 + m, rfl, by omega, by omega, for_range (lo := 0) (n := (1 + m).toNat) (fun k σ' J' => ∃ y v d n', σ' = [some (.ref a), some (.ref p), some (.int (0 + (i : Int))), some (.ref th), some (.ref t), some (.ref qf), some ov, some (.int (j : Int)), some (.ref L), some v, y, y11, y12] ∧ Dt K p J' v d ∧ nice (140 + k) d = true ∧ wt d + 40 ≤ 77 * 2 ^ k ∧ d.depth ≤ 2 + 4 * k ∧ n' ≤ n4 + 4 + 17 * k ∧ Deck K J' p n' ∧ Keep p J13 J')
      ⟨y10, _, _, n4 + 4, rfl, dt_of D13 (stOf _ K4J) (K4J.all al4), tl1, by omega, tl3, by omega, D13, Keep.refl p J13⟩ ?_ ?_⟩
    · rintro k σ' J' hk ⟨y, v, d, n', rfl, hv, hn', hw, hdp, hc, D7, K7⟩
      have k2 : k ≤ 2 := by omega
      have pk : 2 ^ k ≤ 2 ^ 2 := Nat.pow_le_pow_right (by decide) k2
      refine ⟨_, rfl, _, rfl, _, rfl, p, 3, n', rfl, by decide, by decide, D7, by omega, fun x J8 x0 x2 D8 K8 => ?_⟩
      refine ⟨_, _, rfl, rfl, p, v, d, 1 + x, n' + 1, 140 + k, rfl, K8.dt hv, hn', by omega, by omega, by omega, by omega, by omega, by omega, D8, by omega, fun v' d' J9 n'' hv' bd hn'' D9 K9 => ?_⟩
      have pk1 : 2 ^ (k + 1) = 2 ^ k * 2 := Nat.pow_succ 2 k
      have b1 := bd.we
      have b2 := bd.de
      exact ⟨_, v', d', n'', rfl, hv', bd.ni, by omega, by omega, by omega, D9, (K7.trans K8).trans K9⟩
    · rintro σ' J' ⟨y, v, d, n', rfl, hv, hn', hw, hdp, hc, D7, K7⟩
      have m3 : (1 + m).toNat ≤ 3 := by omega
      have pk : 2 ^ (1 + m).toNat ≤ 2 ^ 3 := Nat.pow_le_pow_right (by decide) m3
      have KHJ : Keep p H6 J' := K13.trans K7
      have E0 := (C12.keep KHJ D7).add hv
      have hL' := KHJ.at L0 hL
      have tD : Tiny 143 600 20 d := ⟨nice_more (by omega) d hn', by omega, by omega⟩
      refine ⟨_, rfl, _, rfl, by show 1 ≤ sizeLine; decide, fun l5 g5' => ?_⟩
      have E1 := E0.new g5' (o := .lst [v])
      refine ⟨L, l5, _, _, rfl, rfl, same_new g5' _ _ hL', upd_same, by show 8 ≤ sizeLine; decide, fun l6 g6 => ?_⟩
      have E2 := E1.new g6 (o := .lst ([.ref t, .ref qf, .ref q3, .ref q8, .ref q10, .ref q11, vo] ++ [v]))
      have hl6 : upd (upd J' l5 (.lst [v])) l6 (.lst ([.ref t, .ref qf, .ref q3, .ref q8, .ref q10, .ref q11, vo] ++ [v])) l6 = some (.lst [.ref t, .ref qf, .ref q3, .ref q8, .ref q10, .ref q11, vo, v]) := upd_same
      have KL : Keep p H4 (upd (upd J' l5 (.lst [v])) l6 (.lst ([.ref t, .ref qf, .ref q3, .ref q8, .ref q10, .ref q11, vo] ++ [v]))) := K46.trans E2.kp
      obtain ⟨HL, eHL⟩ : ∃ HL, HL = upd (upd J' l5 (.lst [v])) l6 (.lst ([.ref t, .ref qf, .ref q3, .ref q8, .ref q10, .ref q11, vo] ++ [v])) := ⟨_, rfl⟩
      rw [← eHL] at E2 hl6 KL ⊢
      have al8 : DpAll K (off p HL) [.ref t, .ref qf, .ref q3, .ref q8, .ref q10, .ref q11, vo, v] [.tuple (ps.map pairD), .tuple (qs.map pairD), .tuple (qs.map pairD ++ [.tuple [.int (-1), .int (-1)]]), .tuple ((ps.map pairD).take j ++ [od] ++ (ps.map pairD).drop j), .list (ps.map pairD), .tuple [], do', d] := E2.al
      have ty : ∀ e ∈ [PyData.tuple (ps.map pairD), .tuple (qs.map pairD), .tuple (qs.map pairD ++ [.tuple [.int (-1), .int (-1)]]), .tuple ((ps.map pairD).take j ++ [od] ++ (ps.map pairD).drop j), .list (ps.map pairD), .tuple [], do', d], Tiny 143 600 20 e := by
        intro e he
        simp only [List.mem_cons, List.not_mem_nil, or_false] at he
        rcases he with he | he | he | he | he | he | he | he <;> rw [he]
        · exact (log_tiny z4 inP (by omega)).1
        · exact (log_tiny z4 inQ (by omega)).1
        · have z' := (log_tiny z4 (ps := qs ++ [(-1, -1)]) (inQ.app (.one ⟨by decide, by omega, by decide, by omega⟩)) (by rw [List.length_append, List.length_singleton]; omega)).1
          rw [List.map_append] at z'
          exact z'
        · exact mix_tiny z4 inP (by omega) tO.1 tO.2.1 tO.2.2
        · exact (log_tiny z4 inP (by omega)).2
        · exact (log_tiny z4 (ps := []) (fun u hu => (List.not_mem_nil hu).elim) (by decide)).1
        · exact tdo.mono (by decide) (by decide) (by decide)
        · exact tD
      have thL := htOf _ KL
      refine ⟨l6, rfl, ⟨_, SqL.of hl6⟩, ?_⟩
      refine for_list (K := K) (a := l6) (xs := [.ref t, .ref qf, .ref q3, .ref q8, .ref q10, .ref q11, vo, v]) (fun k σ' J' => Same HL J' ∧ ∃ z11 z12, σ' = [some (.ref a), some (.ref p), some (.int (0 + (i : Int))), some (.ref th), some (.ref t), some (.ref qf), some ov, some (.int (j : Int)), some (.ref L), some v, y, z11, z12])
        ⟨Same.refl _, _, _, rfl⟩ (fun k σ' J' _ ⟨S, _⟩ => SqL.of (S _ _ hl6)) ?_ ?_
      · rintro k x σ' J0 hx ⟨S, z11, z12, rfl⟩
        obtain ⟨e, he, xd'⟩ := dpAll_get al8 hx
        have xd : Dp K J0 x e := dpSame (Same.trans off_in S) e x xd'
        have te := ty e (List.mem_of_getElem? he)
        have th' := sameT S thL
        have hd3 : ∀ M, Same J0 M → Dp K M (.ref th) (.tuple [.int z, .int r, .int (g : Int)]) := fun M S' => .tup (sameT S' th') (.cons (.int _) (.cons (.int _) (.cons (.int _) .nil)))
        obtain ⟨s1', s2', s3'⟩ := (tiny_pair (z := z) (r := r) (g := (g : Int)) (by omega) (by omega) (by omega) (te.mono (by decide) (by decide) (by decide))).shows (by decide) (by decide) (by decide)
        obtain ⟨b1, b2, b3⟩ := show_bool (logB z e)
        refine ⟨_, rfl, _, rfl, by show 2 ≤ sizeLine; decide, fun w1 v1' => ?_⟩
        have S1' : Same J0 (upd J0 w1 (.lst [.ref th, x])) := same_new v1'
        refine ⟨.ref w1, .list [.tuple [.int z, .int r, .int (g : Int)], e], rfl, .lst (SqL.of upd_same) (.cons (hd3 _ S1') (.cons (dpSame S1' _ _ xd) .nil)), s1', s2', s3', ?_⟩
        generalize upd J0 w1 (.lst [.ref th, x]) = M1 at S1' ⊢
        refine ⟨_, rfl, _, rfl, th, x, z, r, (g : Int), e, rfl, sameT S1' th', dpSame S1' _ _ xd, fun M2 S2' => ?_⟩
        have S12 := S1'.trans S2'
        refine ⟨.bl (logB z e), .bool (logB z e), rfl, .bl _, b1, b2, b3, _, rfl, _, rfl, th, x, z, r, (g : Int), e, rfl, sameT S12 th', dpSame S12 _ _ xd, fun M3 S3' => ?_⟩
        have S13 := S12.trans S3'
        refine ⟨.bl (logB z e), .bool (logB z e), rfl, .bl _, b1, b2, b3, rfl, _, rfl, ?_⟩
        refine iteNS rfl ?_
        refine ⟨_, rfl, _, rfl, by show 2 ≤ sizeLine; decide, fun w2 v2' => ?_⟩
        have S14 := S13.trans (same_new v2' (o := .lst [.ref th, x]))
        refine ⟨.ref w2, .list [.tuple [.int z, .int r, .int (g : Int)], e], rfl, .lst (SqL.of upd_same) (.cons (hd3 _ S14) (.cons (dpSame S14 _ _ xd) .nil)), s1', s2', s3', _, rfl, rfl, _, rfl, ?_⟩
        refine iteNS rfl ?_
        exact ⟨S.trans S14, _, _, rfl⟩
      · rintro σ' J0 ⟨S, z11, z12, rfl⟩
        exact ⟨_, _, _, _, _, _, _, _, _, _, _, rfl, n', by omega, E2.dk.of_same S⟩
  · rintro σ H2 ⟨y2, y3, y4, y5, y6, y7, y8, y9, y10, y11, y12, rfl, n, hn, D2⟩
    rfl
end

theorem all_mk {l : PySem.W.OpenLaw} {w : World} {K : PySem.W.Frag} {h : Heap} {mg : Str → Option Value} {fa : Addr} (X : K.In h) (G : h.Ns mainGlobals mg) (hfa : mg "law" = some (.ref fa))
    {f0 : Addr} {od0 an0 : Option Addr} {sl0 : Array (Option Value)} {oc0 kV0 dc0 pm0 ct0 : Value} {cd0 : Value}
    (a0 : PySem.W.nsIn K mainGlobals "whole" = some (some (.ref f0))) (l0 : K.lookup f0 = some ⟨oc0, od0, .func (PySem.W.fnOf "whole" "whole" (defArgs s_whole) (defBody s_whole) (defScope s_whole) .none kV0 dc0 pm0 an0 cd0 ct0), sl0⟩) (c0 : PySem.W.codeIn K cd0 "whole" = true) (k0 : PySem.W.keepIn K (.ref f0) = true)
    {f1 : Addr} {od1 an1 : Option Addr} {sl1 : Array (Option Value)} {oc1 kV1 dc1 pm1 ct1 : Value} {cd1 : Value}
    (a1 : PySem.W.nsIn K mainGlobals "tuple_of" = some (some (.ref f1))) (l1 : K.lookup f1 = some ⟨oc1, od1, .func (PySem.W.fnOf "tuple_of" "tuple_of" (defArgs s_tuple_of) (defBody s_tuple_of) (defScope s_tuple_of) .none kV1 dc1 pm1 an1 cd1 ct1), sl1⟩) (c1 : PySem.W.codeIn K cd1 "tuple_of" = true) (k1 : PySem.W.keepIn K (.ref f1) = true)
    {f2 : Addr} {od2 an2 : Option Addr} {sl2 : Array (Option Value)} {oc2 kV2 dc2 pm2 ct2 : Value} {cd2 : Value}
    (a2 : PySem.W.nsIn K mainGlobals "is_telling" = some (some (.ref f2))) (l2 : K.lookup f2 = some ⟨oc2, od2, .func (PySem.W.fnOf "is_telling" "is_telling" (defArgs s_is_telling) (defBody s_is_telling) (defScope s_is_telling) .none kV2 dc2 pm2 an2 cd2 ct2), sl2⟩) (c2 : PySem.W.codeIn K cd2 "is_telling" = true) (k2 : PySem.W.keepIn K (.ref f2) = true)
    {f3 : Addr} {od3 an3 : Option Addr} {sl3 : Array (Option Value)} {oc3 kV3 dc3 pm3 ct3 : Value} {cd3 : Value}
    (a3 : PySem.W.nsIn K mainGlobals "is_answer" = some (some (.ref f3))) (l3 : K.lookup f3 = some ⟨oc3, od3, .func (PySem.W.fnOf "is_answer" "is_answer" (defArgs s_is_answer) (defBody s_is_answer) (defScope s_is_answer) .none kV3 dc3 pm3 an3 cd3 ct3), sl3⟩) (c3 : PySem.W.codeIn K cd3 "is_answer" = true) (k3 : PySem.W.keepIn K (.ref f3) = true)
    {f4 : Addr} {od4 an4 : Option Addr} {sl4 : Array (Option Value)} {oc4 kV4 dc4 pm4 ct4 : Value} {cd4 : Value}
    (a4 : PySem.W.nsIn K mainGlobals "is_log" = some (some (.ref f4))) (l4 : K.lookup f4 = some ⟨oc4, od4, .func (PySem.W.fnOf "is_log" "is_log" (defArgs s_is_log) (defBody s_is_log) (defScope s_is_log) .none kV4 dc4 pm4 an4 cd4 ct4), sl4⟩) (c4 : PySem.W.codeIn K cd4 "is_log" = true) (k4 : PySem.W.keepIn K (.ref f4) = true)
    {f5 : Addr} {od5 an5 : Option Addr} {sl5 : Array (Option Value)} {oc5 kV5 dc5 pm5 ct5 : Value} {cd5 : Value}
    (a5 : PySem.W.nsIn K mainGlobals "_law_deck" = some (some (.ref f5))) (l5 : K.lookup f5 = some ⟨oc5, od5, .func (PySem.W.fnOf "_law_deck" "_law_deck" (defArgs s_deck) (defBody s_deck) (defScope s_deck) .none kV5 dc5 pm5 an5 cd5 ct5), sl5⟩) (c5 : PySem.W.codeIn K cd5 "_law_deck" = true) (k5 : PySem.W.keepIn K (.ref f5) = true)
    {f6 : Addr} {od6 an6 : Option Addr} {sl6 : Array (Option Value)} {oc6 kV6 dc6 pm6 ct6 : Value} {cd6 : Value}
    (a6 : PySem.W.nsIn K mainGlobals "_law_draw" = some (some (.ref f6))) (l6 : K.lookup f6 = some ⟨oc6, od6, .func (PySem.W.fnOf "_law_draw" "_law_draw" (defArgs s_draw) (defBody s_draw) (defScope s_draw) .none kV6 dc6 pm6 an6 cd6 ct6), sl6⟩) (c6 : PySem.W.codeIn K cd6 "_law_draw" = true) (k6 : PySem.W.keepIn K (.ref f6) = true)
    {f7 : Addr} {od7 an7 : Option Addr} {sl7 : Array (Option Value)} {oc7 kV7 dc7 pm7 ct7 : Value} {cd7 : Value}
    (a7 : PySem.W.nsIn K mainGlobals "_law_one" = some (some (.ref f7))) (l7 : K.lookup f7 = some ⟨oc7, od7, .func (PySem.W.fnOf "_law_one" "_law_one" (defArgs s_one) (defBody s_one) (defScope s_one) .none kV7 dc7 pm7 an7 cd7 ct7), sl7⟩) (c7 : PySem.W.codeIn K cd7 "_law_one" = true) (k7 : PySem.W.keepIn K (.ref f7) = true)
    {f8 : Addr} {od8 an8 : Option Addr} {sl8 : Array (Option Value)} {oc8 kV8 dc8 pm8 ct8 : Value} {cd8 : Value}
    (a8 : PySem.W.nsIn K mainGlobals "_law_power" = some (some (.ref f8))) (l8 : K.lookup f8 = some ⟨oc8, od8, .func (PySem.W.fnOf "_law_power" "_law_power" (defArgs s_power) (defBody s_power) (defScope s_power) .none kV8 dc8 pm8 an8 cd8 ct8), sl8⟩) (c8 : PySem.W.codeIn K cd8 "_law_power" = true) (k8 : PySem.W.keepIn K (.ref f8) = true)
    {f9 : Addr} {od9 an9 : Option Addr} {sl9 : Array (Option Value)} {oc9 kV9 dc9 pm9 ct9 : Value} {cd9 : Value}
    (a9 : PySem.W.nsIn K mainGlobals "_law_house" = some (some (.ref f9))) (l9 : K.lookup f9 = some ⟨oc9, od9, .func (PySem.W.fnOf "_law_house" "_law_house" (defArgs s_house) (defBody s_house) (defScope s_house) .none kV9 dc9 pm9 an9 cd9 ct9), sl9⟩) (c9 : PySem.W.codeIn K cd9 "_law_house" = true) (k9 : PySem.W.keepIn K (.ref f9) = true)
    {f10 : Addr} {od10 an10 : Option Addr} {sl10 : Array (Option Value)} {oc10 kV10 dc10 pm10 ct10 : Value} {cd10 : Value}
    (a10 : PySem.W.nsIn K mainGlobals "_law_rest_kept" = some (some (.ref f10))) (l10 : K.lookup f10 = some ⟨oc10, od10, .func (PySem.W.fnOf "_law_rest_kept" "_law_rest_kept" (defArgs s_rest_kept) (defBody s_rest_kept) (defScope s_rest_kept) .none kV10 dc10 pm10 an10 cd10 ct10), sl10⟩) (c10 : PySem.W.codeIn K cd10 "_law_rest_kept" = true) (k10 : PySem.W.keepIn K (.ref f10) = true)
    {f11 : Addr} {od11 an11 : Option Addr} {sl11 : Array (Option Value)} {oc11 kV11 dc11 pm11 ct11 : Value} {cd11 : Value}
    (a11 : PySem.W.nsIn K mainGlobals "_law_course" = some (some (.ref f11))) (l11 : K.lookup f11 = some ⟨oc11, od11, .func (PySem.W.fnOf "_law_course" "_law_course" (defArgs s_course) (defBody s_course) (defScope s_course) .none kV11 dc11 pm11 an11 cd11 ct11), sl11⟩) (c11 : PySem.W.codeIn K cd11 "_law_course" = true) (k11 : PySem.W.keepIn K (.ref f11) = true)
    {f12 : Addr} {od12 an12 : Option Addr} {sl12 : Array (Option Value)} {oc12 kV12 dc12 pm12 ct12 : Value} {cd12 : Value}
    (a12 : PySem.W.nsIn K mainGlobals "_law_names" = some (some (.ref f12))) (l12 : K.lookup f12 = some ⟨oc12, od12, .func (PySem.W.fnOf "_law_names" "_law_names" (defArgs s_names) (defBody s_names) (defScope s_names) .none kV12 dc12 pm12 an12 cd12 ct12), sl12⟩) (c12 : PySem.W.codeIn K cd12 "_law_names" = true) (k12 : PySem.W.keepIn K (.ref f12) = true)
    {f13 : Addr} {od13 an13 : Option Addr} {sl13 : Array (Option Value)} {oc13 kV13 dc13 pm13 ct13 : Value} {cd13 : Value}
    (a13 : PySem.W.nsIn K mainGlobals "_law_odd" = some (some (.ref f13))) (l13 : K.lookup f13 = some ⟨oc13, od13, .func (PySem.W.fnOf "_law_odd" "_law_odd" (defArgs s_odd) (defBody s_odd) (defScope s_odd) .none kV13 dc13 pm13 an13 cd13 ct13), sl13⟩) (c13 : PySem.W.codeIn K cd13 "_law_odd" = true) (k13 : PySem.W.keepIn K (.ref f13) = true)
    {f14 : Addr} {od14 an14 : Option Addr} {sl14 : Array (Option Value)} {oc14 kV14 dc14 pm14 ct14 : Value} {cd14 : Value}
    (a14 : PySem.W.nsIn K mainGlobals "_law_bent" = some (some (.ref f14))) (l14 : K.lookup f14 = some ⟨oc14, od14, .func (PySem.W.fnOf "_law_bent" "_law_bent" (defArgs s_bent) (defBody s_bent) (defScope s_bent) .none kV14 dc14 pm14 an14 cd14 ct14), sl14⟩) (c14 : PySem.W.codeIn K cd14 "_law_bent" = true) (k14 : PySem.W.keepIn K (.ref f14) = true)
    {f15 : Addr} {od15 an15 : Option Addr} {sl15 : Array (Option Value)} {oc15 kV15 dc15 pm15 ct15 : Value} {cd15 : Value}
    (a15 : PySem.W.nsIn K mainGlobals "_law_log" = some (some (.ref f15))) (l15 : K.lookup f15 = some ⟨oc15, od15, .func (PySem.W.fnOf "_law_log" "_law_log" (defArgs s_log) (defBody s_log) (defScope s_log) .none kV15 dc15 pm15 an15 cd15 ct15), sl15⟩) (c15 : PySem.W.codeIn K cd15 "_law_log" = true) (k15 : PySem.W.keepIn K (.ref f15) = true)
    {f16 : Addr} {od16 an16 : Option Addr} {sl16 : Array (Option Value)} {oc16 kV16 dc16 pm16 ct16 : Value} {cd16 : Value}
    (a16 : PySem.W.nsIn K mainGlobals "_law_due" = some (some (.ref f16))) (l16 : K.lookup f16 = some ⟨oc16, od16, .func (PySem.W.fnOf "_law_due" "_law_due" (defArgs s_due) (defBody s_due) (defScope s_due) .none kV16 dc16 pm16 an16 cd16 ct16), sl16⟩) (c16 : PySem.W.codeIn K cd16 "_law_due" = true) (k16 : PySem.W.keepIn K (.ref f16) = true)
    {f17 : Addr} {od17 an17 : Option Addr} {sl17 : Array (Option Value)} {oc17 kV17 dc17 pm17 ct17 : Value} {cd17 : Value}
    (a17 : PySem.W.nsIn K mainGlobals "law" = some (some (.ref f17))) (l17 : K.lookup f17 = some ⟨oc17, od17, .func (PySem.W.fnOf "law" "law" (defArgs s_law) (defBody s_law) (defScope s_law) .none kV17 dc17 pm17 an17 cd17 ct17), sl17⟩) (c17 : PySem.W.codeIn K cd17 "law" = true) (k17 : PySem.W.keepIn K (.ref f17) = true)
    {p_NONE_ASKED : Addr} {o_NONE_ASKED : Obj} (v_NONE_ASKED : PySem.W.nsIn K mainGlobals "NONE_ASKED" = some (some (.ref p_NONE_ASKED))) (w_NONE_ASKED : K.lookup p_NONE_ASKED = some o_NONE_ASKED) (x_NONE_ASKED : TupOf o_NONE_ASKED [.int (-1), .int (-1)])
    {t_MOST_PAIRS : Tok} (v_MOST_PAIRS : PySem.W.nsIn K mainGlobals "MOST_PAIRS" = some (some (.int 30 t_MOST_PAIRS)))
    (z_abs : PySem.W.nsIn K mainGlobals "abs" = some none)
    (z_all : PySem.W.nsIn K mainGlobals "all" = some none)
    (z_bool : PySem.W.nsIn K mainGlobals "bool" = some none)
    (z_int : PySem.W.nsIn K mainGlobals "int" = some none)
    (z_isinstance : PySem.W.nsIn K mainGlobals "isinstance" = some none)
    (z_len : PySem.W.nsIn K mainGlobals "len" = some none)
    (z_list : PySem.W.nsIn K mainGlobals "list" = some none)
    (z_range : PySem.W.nsIn K mainGlobals "range" = some none)
    (z_repr : PySem.W.nsIn K mainGlobals "repr" = some none)
    (z_set : PySem.W.nsIn K mainGlobals "set" = some none)
    (z_sorted : PySem.W.nsIn K mainGlobals "sorted" = some none)
    (z_tuple : PySem.W.nsIn K mainGlobals "tuple" = some none)
    (z_zip : PySem.W.nsIn K mainGlobals "zip" = some none)
    : ∃ fd : FuncData, Fun K "law" "law" s_law fa fd ∧ (∀ (s : Shared) (u : Value), BindsTo s fd ⟨[u], []⟩ [("_law_script", u)]) ∧ LawDoes l.prog w K mg s_law ["_law_script", "_law_deck_here", "_law_turn", "_law_house_here", "_law_log_here", "_law_full", "_law_odd_here", "_law_at", "_law_some", "_law_thing", "_law_k", "_law_one_here", "_law_held"] fa := by
  have e := hfa.symm.trans (PySem.W.mg_of X G a17)
  cases e
  have F0 := fun_mk (st := s_whole) l0 c0 k0
  have F1 := fun_mk (st := s_tuple_of) l1 c1 k1
  have F2 := fun_mk (st := s_is_telling) l2 c2 k2
  have F3 := fun_mk (st := s_is_answer) l3 c3 k3
  have F4 := fun_mk (st := s_is_log) l4 c4 k4
  have F5 := fun_mk (st := s_deck) l5 c5 k5
  have F6 := fun_mk (st := s_draw) l6 c6 k6
  have F7 := fun_mk (st := s_one) l7 c7 k7
  have F8 := fun_mk (st := s_power) l8 c8 k8
  have F9 := fun_mk (st := s_house) l9 c9 k9
  have F10 := fun_mk (st := s_rest_kept) l10 c10 k10
  have F11 := fun_mk (st := s_course) l11 c11 k11
  have F12 := fun_mk (st := s_names) l12 c12 k12
  have F13 := fun_mk (st := s_odd) l13 c13 k13
  have F14 := fun_mk (st := s_bent) l14 c14 k14
  have F15 := fun_mk (st := s_log) l15 c15 k15
  have F16 := fun_mk (st := s_due) l16 c16 k16
  have T : Txt K mg := ⟨_,
    _,
    F0,
    PySem.W.mg_of X G a0,
    F0.binds (ps := ["value", "low", "high"]) fun _ _ _ _ _ _ us hl => match us, hl with | [_, _, _], _ => rfl,
    _,
    _,
    F1,
    PySem.W.mg_of X G a1,
    F1.binds (ps := ["value", "many"]) fun _ _ _ _ _ _ us hl => match us, hl with | [_, _], _ => rfl,
    _,
    _,
    F2,
    PySem.W.mg_of X G a2,
    F2.binds (ps := ["house", "value"]) fun _ _ _ _ _ _ us hl => match us, hl with | [_, _], _ => rfl,
    _,
    _,
    F3,
    PySem.W.mg_of X G a3,
    F3.binds (ps := ["house", "value"]) fun _ _ _ _ _ _ us hl => match us, hl with | [_, _], _ => rfl,
    _,
    _,
    F4,
    PySem.W.mg_of X G a4,
    F4.binds (ps := ["house", "value"]) fun _ _ _ _ _ _ us hl => match us, hl with | [_, _], _ => rfl,
    _,
    _,
    F5,
    PySem.W.mg_of X G a5,
    F5.binds (ps := ["_law_script"]) fun _ _ _ _ _ _ us hl => match us, hl with | [_], _ => rfl,
    _,
    _,
    F6,
    PySem.W.mg_of X G a6,
    F6.binds (ps := ["_law_deck_here", "_law_many"]) fun _ _ _ _ _ _ us hl => match us, hl with | [_, _], _ => rfl,
    _,
    _,
    F7,
    PySem.W.mg_of X G a7,
    F7.binds (ps := ["_law_deck_here", "_law_items"]) fun _ _ _ _ _ _ us hl => match us, hl with | [_, _], _ => rfl,
    _,
    _,
    F8,
    PySem.W.mg_of X G a8,
    F8.binds (ps := ["_law_servers", "_law_lag"]) fun _ _ _ _ _ _ us hl => match us, hl with | [_, _], _ => rfl,
    _,
    _,
    F9,
    PySem.W.mg_of X G a9,
    F9.binds (ps := ["_law_deck_here", "_law_room"]) fun _ _ _ _ _ _ us hl => match us, hl with | [_, _], _ => rfl,
    _,
    _,
    F10,
    PySem.W.mg_of X G a10,
    F10.binds (ps := ["_law_course_here", "_law_rest"]) fun _ _ _ _ _ _ us hl => match us, hl with | [_, _], _ => rfl,
    _,
    _,
    F11,
    PySem.W.mg_of X G a11,
    F11.binds (ps := ["_law_deck_here", "_law_house_here", "_law_many"]) fun _ _ _ _ _ _ us hl => match us, hl with | [_, _, _], _ => rfl,
    _,
    _,
    F12,
    PySem.W.mg_of X G a12,
    F12.binds (ps := ["_law_house_here", "_law_course_here", "_law_moment", "_law_server"]) fun _ _ _ _ _ _ us hl => match us, hl with | [_, _, _, _], _ => rfl,
    _,
    _,
    F13,
    PySem.W.mg_of X G a13,
    F13.binds (ps := ["_law_deck_here"]) fun _ _ _ _ _ _ us hl => match us, hl with | [_], _ => rfl,
    _,
    _,
    F14,
    PySem.W.mg_of X G a14,
    F14.binds (ps := ["_law_deck_here", "_law_thing", "_law_deep"]) fun _ _ _ _ _ _ us hl => match us, hl with | [_, _, _], _ => rfl,
    _,
    _,
    F15,
    PySem.W.mg_of X G a15,
    F15.binds (ps := ["_law_deck_here", "_law_house_here", "_law_many"]) fun _ _ _ _ _ _ us hl => match us, hl with | [_, _, _], _ => rfl,
    _,
    _,
    F16,
    PySem.W.mg_of X G a16,
    F16.binds (ps := ["_law_house_here", "_law_thing"]) fun _ _ _ _ _ _ us hl => match us, hl with | [_, _], _ => rfl,
    _,
    PySem.W.mg_of X G v_NONE_ASKED,
    x_NONE_ASKED.sq w_NONE_ASKED,
    _,
    PySem.W.mg_of X G v_MOST_PAIRS,
    PySem.W.mg_none_of X G z_abs,
    PySem.W.mg_none_of X G z_all,
    PySem.W.mg_none_of X G z_bool,
    PySem.W.mg_none_of X G z_int,
    PySem.W.mg_none_of X G z_isinstance,
    PySem.W.mg_none_of X G z_len,
    PySem.W.mg_none_of X G z_list,
    PySem.W.mg_none_of X G z_range,
    PySem.W.mg_none_of X G z_repr,
    PySem.W.mg_none_of X G z_set,
    PySem.W.mg_none_of X G z_sorted,
    PySem.W.mg_none_of X G z_tuple,
    PySem.W.mg_none_of X G z_zip⟩
  exact ⟨_, fun_mk (st := s_law) l17 c17 k17, fun s u => .of_eq rfl, law_does T⟩
end Qu
open PySem PySem.W PyProof.Rows
set_option maxRecDepth 100000 in
set_option maxHeartbeats 0 in
theorem PySem.Challenge.cw_sentnext_k47_what_is_a_log_holds : PySem.Challenge.rw_sentnext_k47_what_is_a_log.Holds := by
  w_on; o_law; k_head; (case hw => w_witness2)
  k_fill
  refine Qu.law_walk (l := PySem.Challenge.rw_sentnext_k47_what_is_a_log) (x := "_law_script") (N := ["_law_script", "_law_deck_here", "_law_turn", "_law_house_here", "_law_log_here", "_law_full", "_law_odd_here", "_law_at", "_law_some", "_law_thing", "_law_k", "_law_one_here", "_law_held"]) rfl rfl Qu.sc_law (fun w h Y => PySem.W.kIn_of Y) ?F
  case F =>
    intro w mg fa h KX G hmg
    refine' Qu.all_mk KX G hmg ?a0 ?l0 ?c0 ?k0 ?a1 ?l1 ?c1 ?k1 ?a2 ?l2 ?c2 ?k2 ?a3 ?l3 ?c3 ?k3 ?a4 ?l4 ?c4 ?k4 ?a5 ?l5 ?c5 ?k5 ?a6 ?l6 ?c6 ?k6 ?a7 ?l7 ?c7 ?k7 ?a8 ?l8 ?c8 ?k8 ?a9 ?l9 ?c9 ?k9 ?a10 ?l10 ?c10 ?k10 ?a11 ?l11 ?c11 ?k11 ?a12 ?l12 ?c12 ?k12 ?a13 ?l13 ?c13 ?k13 ?a14 ?l14 ?c14 ?k14 ?a15 ?l15 ?c15 ?k15 ?a16 ?l16 ?c16 ?k16 ?a17 ?l17 ?c17 ?k17 ?v_NONE_ASKED ?w_NONE_ASKED ?x_NONE_ASKED ?v_MOST_PAIRS ?z_abs ?z_all ?z_bool ?z_int ?z_isinstance ?z_len ?z_list ?z_range ?z_repr ?z_set ?z_sorted ?z_tuple ?z_zip
    (case a0 => k_is)
    (case l0 => k_is)
    (case c0 => k_is)
    (case k0 => k_is)
    (case a1 => k_is)
    (case l1 => k_is)
    (case c1 => k_is)
    (case k1 => k_is)
    (case a2 => k_is)
    (case l2 => k_is)
    (case c2 => k_is)
    (case k2 => k_is)
    (case a3 => k_is)
    (case l3 => k_is)
    (case c3 => k_is)
    (case k3 => k_is)
    (case a4 => k_is)
    (case l4 => k_is)
    (case c4 => k_is)
    (case k4 => k_is)
    (case a5 => k_is)
    (case l5 => k_is)
    (case c5 => k_is)
    (case k5 => k_is)
    (case a6 => k_is)
    (case l6 => k_is)
    (case c6 => k_is)
    (case k6 => k_is)
    (case a7 => k_is)
    (case l7 => k_is)
    (case c7 => k_is)
    (case k7 => k_is)
    (case a8 => k_is)
    (case l8 => k_is)
    (case c8 => k_is)
    (case k8 => k_is)
    (case a9 => k_is)
    (case l9 => k_is)
    (case c9 => k_is)
    (case k9 => k_is)
    (case a10 => k_is)
    (case l10 => k_is)
    (case c10 => k_is)
    (case k10 => k_is)
    (case a11 => k_is)
    (case l11 => k_is)
    (case c11 => k_is)
    (case k11 => k_is)
    (case a12 => k_is)
    (case l12 => k_is)
    (case c12 => k_is)
    (case k12 => k_is)
    (case a13 => k_is)
    (case l13 => k_is)
    (case c13 => k_is)
    (case k13 => k_is)
    (case a14 => k_is)
    (case l14 => k_is)
    (case c14 => k_is)
    (case k14 => k_is)
    (case a15 => k_is)
    (case l15 => k_is)
    (case c15 => k_is)
    (case k15 => k_is)
    (case a16 => k_is)
    (case l16 => k_is)
    (case c16 => k_is)
    (case k16 => k_is)
    (case a17 => k_is)
    (case l17 => k_is)
    (case c17 => k_is)
    (case k17 => k_is)
    (case v_NONE_ASKED => k_is)
    (case w_NONE_ASKED => k_is)
    (case x_NONE_ASKED => exact ⟨_, _, rfl, rfl, by decide, .cons ⟨_, rfl⟩ (.cons ⟨_, rfl⟩ (.nil))⟩)
    (case v_MOST_PAIRS => k_is)
    (case z_abs => k_is)
    (case z_all => k_is)
    (case z_bool => k_is)
    (case z_int => k_is)
    (case z_isinstance => k_is)
    (case z_len => k_is)
    (case z_list => k_is)
    (case z_range => k_is)
    (case z_repr => k_is)
    (case z_set => k_is)
    (case z_sorted => k_is)
    (case z_tuple => k_is)
    (case z_zip => k_is)
