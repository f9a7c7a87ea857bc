import PyProof.Rows.All
import KE.KIntText
import KE.SortData
import KE.KeyNested
import Wide.All
import OpenK.AllK
import Wide.FinOn
import HandS.ForMost
import HandS.IsInst
import HandS.TupAny
import HandS.NoneIn
import HandS.TupMul
import HandS.Zip
import HandS.Evl
import PyProof.ReprRoads
import HandS.AnyAll
import HandS.Comp
import PyProof.TupleOfGen
import HandS.Set
import HandS.SortInts
import HandS.Walk
import HandS.TupSets
import HandS.Conv
import HandS.SetFor
import HandS.Strs
import HandS.Style
import KE.GoesEnumKw
import PySem.Challenge.RW_sentnext_k37_what_is_a_way
set_option Elab.async false
set_option linter.all false
set_option maxRecDepth 100000
set_option maxHeartbeats 4000000
namespace Qu
open PySem PySem.Spec PyProof.Rows L2
/-! ### data stays where the heap only grows -/
theorem sameT {K : PySem.W.Frag} {H J : Hp} {a : Addr} {xs : List V} (e : Same H J) (h : SqT K H a xs) : SqT K J a xs := by
  rcases h with (h | ⟨o, h⟩) | h
  · exact Or.inl (Or.inl (e _ _ h))
  · exact Or.inl (Or.inr ⟨o, e _ _ h⟩)
  · exact Or.inr h
mutual
theorem dpSame {K : PySem.W.Frag} {H J : Hp} (e : Same H J) : ∀ (d : PyData) (v : V), Dp K H v d → Dp K J v d
  | .none, _, h => by cases h; exact .non
  | .bool b, _, h => by cases h; exact .bl b
  | .int i, _, h => by cases h; exact .int i
  | .str x, _, h => by cases h; exact .str x
  | .list ds, _, h => by cases h with | lst hs ha => exact .lst (e.seq hs) (dpAllSame e ds _ ha)
  | .tuple ds, _, h => by cases h with | tup hs ha => exact .tup (sameT e hs) (dpAllSame e ds _ ha)
  | .dict _, _, h => by cases h
theorem dpAllSame {K : PySem.W.Frag} {H J : Hp} (e : Same H J) : ∀ (ds : List PyData) (vs : List V), DpAll K H vs ds → DpAll K J vs ds
  | [], _, h => by cases h; exact .nil
  | d :: ds, _, h => by cases h with | cons h1 h2 => exact .cons (dpSame e d _ h1) (dpAllSame e ds _ h2)
end
mutual
theorem dpNoDict {K : PySem.W.Frag} {H : Hp} : ∀ (d : PyData) (v : V), Dp K H v d → d.hasDict = false
  | .none, _, _ => by simp only [PyData.hasDict]
  | .bool _, _, _ => by simp only [PyData.hasDict]
  | .int _, _, _ => by simp only [PyData.hasDict]
  | .str _, _, _ => by simp only [PyData.hasDict]
  | .list ds, _, h => by cases h with | lst hs ha => simp only [PyData.hasDict]; exact dpAllNoDict ds _ ha
  | .tuple ds, _, h => by cases h with | tup hs ha => simp only [PyData.hasDict]; exact dpAllNoDict ds _ ha
  | .dict _, _, h => by cases h
theorem dpAllNoDict {K : PySem.W.Frag} {H : Hp} : ∀ (ds : List PyData) (vs : List V), DpAll K H vs ds → PyData.hasDictAll ds = false
  | [], _, _ => by simp only [PyData.hasDictAll]
  | d :: ds, _, h => by cases h with | cons h1 h2 => simp only [PyData.hasDictAll, dpNoDict d _ h1, dpAllNoDict ds _ h2, Bool.or_false]
end

/-! ### repr of data, where no repr is under way around -/
section
variable {X : Cx}
def rShow (K : PySem.W.Frag) : List V → Hp → VK → Prop := fun xs H Q => ∃ (v : V) (d : PyData), xs = [v] ∧ Dp K H v d ∧ d.showable = true ∧ d.depth ≤ 50 ∧ d.shown.length ≤ sizeLine ∧ Q (.str d.shown) H
theorem call_show (hg : X.A.guards = some []) (hu : X.A.units + 64 < cLine) : CallR X (.builtin "repr") (rShow X.K) := by
  intro pins s σ H xs us Q I r h
  obtain ⟨v, d, rfl, hd, hs, hdep, hz, q⟩ := h
  obtain ⟨u, rfl, ru⟩ := vals1 r
  obtain ⟨as, rd⟩ := Dp.reads I d v u hd ru
  have nd := PyData.noDict_hsm (as := as) (dpNoDict d v hd)
  cases hd with
  | non =>
    cases ru
    refine PySem.P.repr_of_none ?_
    exact ⟨.str _, H, I.tok _, ⟨_, rfl⟩, by simpa only [PyData.shown] using q⟩
  | bl b =>
    cases ru
    refine PySem.P.repr_of_bool ?_
    exact ⟨.str _, H, I.tok _, ⟨_, rfl⟩, by simpa only [PyData.shown] using q⟩
  | int i =>
    obtain ⟨t, rfl⟩ := ru
    refine PySem.P.repr_of_int (by simpa [PyData.showable] using hs) ?_
    exact ⟨.str _, H, I.tok _, ⟨_, rfl⟩, by simpa only [PyData.shown] using q⟩
  | str x =>
    obtain ⟨t, rfl⟩ := ru
    refine PySem.P.repr_of_str ?_ (by simpa only [PyData.shown] using hz)
    exact ⟨.str _, H, I.tok _, ⟨_, rfl⟩, by simpa only [PyData.shown] using q⟩
  | lst h1 h2 =>
    cases ru
    exact repr_of_reads' (h₀ := s.heap) rd hs nd hg (by omega) (fun _ _ e => e) (fun h' tu tk hk => ⟨.str _, H, I.kept hk, ⟨_, rfl⟩, q⟩) hz
  | tup h1 h2 =>
    cases ru
    exact repr_of_reads' (h₀ := s.heap) rd hs nd hg (by omega) (fun _ _ e => e) (fun h' tu tk hk => ⟨.str _, H, I.kept hk, ⟨_, rfl⟩, q⟩) hz
end

/-! ### isinstance of data -/
def kindD : PyData → String
  | .none => "NoneType"
  | .bool _ => "bool"
  | .int _ => "int"
  | .str _ => "str"
  | .list _ => "list"
  | .tuple _ => "tuple"
  | .dict _ => "dict"
section
variable {K : PySem.W.Frag} {H : Hp}
theorem dpTy {d : PyData} {v : V} (h : Dp K H v d) : TyX K H v (.type (kindD d)) := by
  cases h with
  | non => exact .base .non
  | bl b => exact .base (.bl b)
  | int i => exact .base (.int i)
  | str x => exact .base (.str x)
  | lst h1 _ =>
    rcases h1 with (h1 | ⟨o, h1⟩) | ⟨o, its, n, hk, hc, _⟩
    · exact .base (.lst h1)
    · exact .base (.frz h1)
    · exact .kList hk hc
  | tup h1 _ =>
    rcases h1 with (h1 | ⟨o, h1⟩) | ⟨o, its, n, hk, hc, _⟩
    · exact .base (.tup h1)
    · exact .fTuple h1
    · exact .kTuple hk hc
def isS (T k : String) : Bool := decide (k = T) || (decide (T = "int") && decide (k = "bool"))
def isA (T : String) (d : PyData) : Bool := isS T (kindD d)
theorem kitS : ∀ T ∈ ["tuple", "int", "bool", "str", "list"], ∀ k ∈ ["NoneType", "bool", "int", "str", "list", "tuple"], kitB k T = some (isS T k) := by decide +kernel
theorem dpKind {d : PyData} {v : V} (h : Dp K H v d) : kindD d ∈ ["NoneType", "bool", "int", "str", "list", "tuple"] := by
  cases h <;> simp [kindD]
end
section
variable {X : Cx}
def rIsD (K : PySem.W.Frag) (T : String) : List V → Hp → VK → Prop := fun xs H Q => ∃ (v : V) (d : PyData), xs = [v, .ty T] ∧ Dp K H v d ∧ Q (.bl (isA T d)) H
theorem call_isD (T : String) (hT : T ∈ ["tuple", "int", "bool", "str", "list"]) : CallR X (.builtin "isinstance") (rIsD X.K T) := by
  intro pins s σ H xs us Q I r h
  obtain ⟨v, d, rfl, hd, q⟩ := h
  refine call_isi pins s σ H _ us Q I r ⟨v, .ty T, .type (kindD d), .type T, isA T d, rfl, .ty T, dpTy hd, kit_ty (kitS T hT _ (dpKind hd)), q⟩
end
/-! ### the end of a law: its def is called by the row's own caller, so nothing is under way around it -/
/-- where the script stands -/
def onlyAt (a : Addr) (u : HO) (free : Bool) : Hp := fun b => if b = a ∧ free = true then some u else none
theorem onlyAt_cases (a : Addr) (u : HO) (free : Bool) (b : Addr) : onlyAt a u free b = none ∨ (b = a ∧ free = true ∧ onlyAt a u free b = some u) := by
  by_cases h : b = a ∧ free = true
  · exact Or.inr ⟨h.1, h.2, if_pos h⟩
  · exact Or.inl (if_neg h)
/-- what the law's body has to do, at any place where its def is called by the caller -/
def LawDoes (P : Program) (w : World) (K : PySem.W.Frag) (mg : Str → Option Value) (st : Stmt) (N : List Str) (f : Addr) : Prop :=
  ∀ (base : Heap) (cdv : Value) (s : Shared) (H : Hp) (a : Addr) (ns : List Int), ns.length ≤ 63 → SqL K H a (ns.map V.int) →
    ∃ t, PSs (cxOf CX0 P w K mg base N "law" (defScope st) f cdv callerA [] s H E0).nox (defBody st) t ∧
      t { nx := fun _ _ => False, rt := fun v _ => v = .bl true } (start N [.ref a]) H
theorem law_at {P : Program} {w : World} {K : PySem.W.Frag} {mg : Str → Option Value} {base : Heap} {st : Stmt} {N : List Str} {f a : Addr} {fd : FuncData} {s : Shared} {H : Hp} {ns : List Int} {x : Str}
    (F : Fun K "law" "law" st f fd) (S : FnScope N [x] (defScope st)) (hr : Room 60 callerA) (D : LawDoes P w K mg st N f)
    (e0 : Env0 P w K mg base callerA [] s H) (hb : BindsTo s fd ⟨[.ref a], []⟩ [(x, .ref a)]) (hl : ns.length ≤ 63) (hS : SqL K H a (ns.map V.int)) :
    codeAny (model P w) callerA (.call (.ref f) ⟨[.ref a], []⟩) (CR CX0 [] P w H s (fun v _ => v = .bl true) E0) s := by
  obtain ⟨oc, od, kV, doc, pm, an, cdv, ct, osl, rfl, lk, hcd⟩ := F.ex
  have heap0 : K.In s.heap := e0.mod.kin.keeps fun b o e => (e0.bs b o e).1
  have lim0 := e0.mod.nolimit.keeps fun b o e => (e0.bs b o e).1
  have vals : Vals [V.ref a] [Value.ref a] := .cons rfl .nil
  refine codeAny_call_function hr.depth (heap0 _ _ lk) rfl S.co S.gen rfl (PySem.W.codeRec_of heap0 hcd) (hb _ _ _ _ ?_)
  refine wpAny_newFunctionEnv_cells S.kind (fun y hy => ?_) fun env he s1 ic => ?_
  · have ey : y = (x, Value.ref a) := List.mem_singleton.mp hy
    rw [ey]
    rcases S.par x (List.mem_singleton.mpr rfl) with q | q
    · exact Or.inl q
    · exact Or.inr ⟨q, PySem.W.cellsFrom_some _ _ _ (Or.inl q)⟩
  · subst he
    refine ⟨lim0.keeps ic.toInCall.keep, codeAny_func ?_⟩
    obtain ⟨t, pt, q⟩ := D base cdv s H a ns hl hS
    have I := inv_start (CX := CX0) (E := E0) (cd := cdv) (f := f) (qual := "law") S hr.hd e0 rfl vals ic
    refine wpAny_mono (pt.nox.run [] s1 _ H _ I q) ?_ ?_
    · intro fl s2 h
      cases fl with
      | ret u =>
        obtain ⟨v, _, H2, J, rv, e⟩ := h
        exact ⟨v, H2, J.os, J.bare, J.base, J.hok, rv, e⟩
      | next => exact (let ⟨_, _, _, z⟩ := h; False.elim z)
      | brk => exact (let ⟨_, _, _, z⟩ := h; False.elim z)
      | cont => exact (let ⟨_, _, _, z⟩ := h; False.elim z)
    · exact fun _ _ z => z
theorem law_walk {l : PySem.W.OpenLaw} {q : Program} {loose : List Str} {XP : (Str → Option Value) → Heap → Prop} {YP : World → Heap → Prop} {d : DefRec} {K : Params → PySem.W.Frag} {x : Str} {st : Stmt} {N : List Str}
    (hn : l.most = some 63) (hdf : d.params.defaults = []) (S : FnScope N [x] (defScope st)) (hY : ∀ (w : World) (h : Heap), YP w h → (K w.params).In h)
    (Fm : ∀ (w : World) (mg : Str → Option Value) (fa : Addr) (h : Heap), (K w.params).In h → h.Ns mainGlobals mg → mg d.name = some (.ref fa) →
      ∃ fd : FuncData, Fun (K w.params) "law" "law" st fa fd ∧ (∀ (s : Shared) (u : Value), BindsTo s fd ⟨[u], []⟩ [(x, u)]) ∧ LawDoes l.prog w (K w.params) mg st N fa) :
    PySem.W.WalkO q loose XP YP l.row.toRowW d [] (fun f vs => PySem.call f vs) := by
  refine Att.attach_call hn hdf fun w s₀ s1 mg mb fa o pm cd doc a vs ns G Y ho hd hcd hmg hobj hints hlen hgen => ?_
  have hK := hY w _ Y
  obtain ⟨fd, F, hbind, D⟩ := Fm w mg fa _ hK G.T.g hmg
  have rv := vals_ints hints
  -- the script is tracked, as known to the object, unless it is one of the module's
  let u : HO := .frz { cls := .type "list", data := .seq vs.toArray } (.lst (ns.map V.int))
  let free : Bool := ((K w.params).lookup a).isNone
  let H : Hp := onlyAt a u free
  have lenV : vs.length = ns.length := hints.length
  have small : ns.length ≤ sizeLine := Nat.le_trans hlen (by decide)
  have hS : SqL (K w.params) H a (ns.map V.int) := by
    cases e : (K w.params).lookup a with
    | none => exact Or.inl (Or.inr ⟨_, if_pos ⟨rfl, by show ((K w.params).lookup a).isNone = true; rw [e]; rfl⟩⟩)
    | some ob =>
      have e1 := (hK a ob e).symm.trans hobj
      cases Option.some.inj e1
      exact Or.inr ⟨_, vs.toArray, _, e, rfl, rfl, rfl, by rw [List.size_toArray, lenV]; exact small, by rw [List.toList_toArray]; exact rv⟩
  have hHok : HOk l.prog w H s1.heap := fun b z e => by
    rcases onlyAt_cases a u free b with n | ⟨rfl, _, y⟩
    · cases n.symm.trans e
    · cases y.symm.trans e
      exact ⟨hobj, by rw [List.length_map]; exact small, vs, _, rv, hobj⟩
  have isL : ∀ {b : Addr} {ob : Obj}, s1.heap.get? b = some ob → (∀ its n, ob.data ≠ .seq its n) → H b = none := fun {b ob} e nd => by
    rcases onlyAt_cases a u free b with n | ⟨rfl, _, _⟩
    · exact n
    · cases hobj.symm.trans e
      exact absurd rfl (nd _ _)
  have nsK : ∀ {b : Addr} {m : Str → Option Value}, s1.heap.Ns b m → (hidT s1.heap H).Ns b m := by
    rintro b m ⟨ob, es, ep, e, dt, r⟩
    exact ⟨ob, es, ep, hidT_get e (isL e fun its n z => nomatch dt.symm.trans z), dt, r⟩
  have inB : (K w.params).In (hidT s1.heap H) := fun b ob e => hidT_get (hK b ob e) (by
    rcases onlyAt_cases a u free b with n | ⟨rfl, fr, _⟩
    · exact n
    · have fr' : ((K w.params).lookup b).isNone = true := fr
      rw [e] at fr'
      cases fr')
  have hM : Mod (K w.params) mg (hidT s1.heap H) := ⟨inB, nsK G.T.g, ⟨mb, nsK G.T.b, G.T.builtins⟩, let ⟨mc, h1, h2⟩ := G.T.nolimit; ⟨mc, nsK h1, h2⟩⟩
  have e0 : Env0 l.prog w (K w.params) mg (hidT s1.heap H) callerA [] s1 H :=
    { frames := rfl, mod := hM, bs := fun b ob e => of_hidT e, bsz := Nat.le_of_eq (hidT_size _ _), funs := True.intro, frf := fun b hb => (List.not_mem_nil hb).elim, hok := hHok, bare := .of_eq hgen }
  refine codeAny_mono (law_at F S ⟨rfl, by decide, by decide⟩ D e0 (hbind s1 (.ref a)) hlen hS) fun r s2 h => ?_
  cases r with
  | error e => exact False.elim h
  | ok fl =>
    cases fl with
    | next => exact False.elim h
    | brk => exact False.elim h
    | cont => exact False.elim h
    | ret v0 =>
      obtain ⟨v, H2, os, bare, un, hok2, r2, ev⟩ := h
      have ev' : v = .bl true := ev
      rw [ev'] at r2
      have e3 : v0 = Value.bool true := r2
      rw [e3]
      refine ⟨rfl, OldK.of_keep fun b ob e => ?_, os, bare⟩
      rcases onlyAt_cases a u free b with n | ⟨rfl, _, y⟩
      · exact un.keep b ob e n List.not_mem_nil List.not_mem_nil
      · have k2 := hok2 b _ (un.frzs b _ _ y)
        cases hobj.symm.trans e
        exact k2.1
/-! ### how much there is to a piece of data, and that it can be shown -/
mutual
def wt : PyData → Nat
  | .list ds => 1 + wtAll ds
  | .tuple ds => 1 + wtAll ds
  | _ => 1
def wtAll : List PyData → Nat
  | [] => 0
  | d :: ds => wt d + wtAll ds
end
mutual
def nice (e : Nat) : PyData → Bool
  | .none => true
  | .bool _ => true
  | .int i => decide (i.natAbs < 2 ^ e)
  | .str x => decide (x.length ≤ 10) && PyData.strOk x
  | .list ds => niceAll e ds
  | .tuple ds => niceAll e ds
  | .dict _ => false
def niceAll (e : Nat) : List PyData → Bool
  | [] => true
  | d :: ds => nice e d && niceAll e ds
end
theorem niceAll_iff {e : Nat} : ∀ {ds : List PyData}, niceAll e ds = true ↔ ∀ d ∈ ds, nice e d = true
  | [] => by simp [niceAll]
  | d :: ds => by simp [niceAll, niceAll_iff (ds := ds)]
theorem wtAll_append : ∀ a b : List PyData, wtAll (a ++ b) = wtAll a + wtAll b
  | [], b => by simp [wtAll]
  | d :: a, b => by simp [wtAll, wtAll_append a b]; omega
theorem wtAll_reverse : ∀ a : List PyData, wtAll a.reverse = wtAll a
  | [] => rfl
  | d :: a => by rw [List.reverse_cons, wtAll_append, wtAll_reverse a]; simp [wtAll]; omega
theorem wt_pos (d : PyData) : 1 ≤ wt d := by cases d <;> simp [wt]
theorem wtAll_len : ∀ ds : List PyData, ds.length ≤ wtAll ds
  | [] => Nat.le_refl _
  | d :: ds => by
    have := wtAll_len ds
    have := wt_pos d
    simp only [List.length_cons, wtAll]
    omega
theorem depthAll_append : ∀ a b : List PyData, PyData.depthAll (a ++ b) = max (PyData.depthAll a) (PyData.depthAll b)
  | [], b => by simp [PyData.depthAll]
  | d :: a, b => by simp only [List.cons_append, PyData.depthAll, depthAll_append a b]; omega
theorem depthAll_le {m : Nat} : ∀ {ds : List PyData}, PyData.depthAll ds ≤ m ↔ ∀ d ∈ ds, d.depth ≤ m
  | [] => by simp [PyData.depthAll]
  | d :: ds => by
    have ih := depthAll_le (m := m) (ds := ds)
    simp only [PyData.depthAll, List.mem_cons, forall_eq_or_imp, ← ih]
    omega
theorem log_lt {e : Nat} {i : Int} (h : i.natAbs < 2 ^ e) : i.natAbs.log2 < e + 1 := by
  by_cases z : i.natAbs = 0
  · rw [z]
    exact Nat.lt_of_le_of_lt (Nat.le_of_eq (by decide : Nat.log2 0 = 0)) (Nat.succ_pos e)
  · exact Nat.lt_succ_of_lt ((Nat.log2_lt z).mpr h)
theorem shownAll_len : ∀ ds : List PyData, (PyData.shownAll ds).length = ds.length
  | [] => by simp [PyData.shownAll]
  | d :: ds => by simp [PyData.shownAll, shownAll_len ds]
mutual
theorem nice_shown {e : Nat} : ∀ d : PyData, nice e d = true → d.shown.length + 2 ≤ (e + 110) * wt d
  | .none, _ => by simp only [PyData.shown, wt]; exact Nat.le_trans (by decide : ("None" : Str).length + 2 ≤ 110) (by omega)
  | .bool b, _ => by
    simp only [PyData.shown, wt]
    cases b
    · exact Nat.le_trans (by decide : ("False" : Str).length + 2 ≤ 110) (by omega)
    · exact Nat.le_trans (by decide : ("True" : Str).length + 2 ≤ 110) (by omega)
  | .int i, h => by
    have h' : i.natAbs < 2 ^ e := by simpa [nice] using h
    have := int_text_length_le (Nat.succ_pos e) (log_lt h')
    simp only [PyData.shown, wt]
    show (Str.ofString (toString i)).length + 2 ≤ _
    rw [PyProof.Rows.ofString_len]
    omega
  | .str x, h => by
    have h' : x.length ≤ 10 ∧ PyData.strOk x = true := by simpa [nice] using h
    have h2 : ∀ c ∈ x.cps.toList, c < 16 ^ 8 := fun c hc => by
      have h3 := h'.2
      unfold PyData.strOk at h3
      have h4 := Array.all_eq_true_iff_forall_mem.mp h3 c (by simpa using hc)
      have h5 : c < 0x110000 := by simpa using h4
      exact Nat.lt_trans h5 (by decide)
    have := StrLaws.reprText_len x h2
    simp only [PyData.shown, wt]
    omega
  | .list ds, h => by
    have ih := nice_shownAll ds (by simpa [nice] using h)
    have l := listText_len_le (PyData.shownAll ds)
    rw [shownAll_len] at l
    simp only [PyData.shown, wt]
    rw [Nat.mul_add (e + 110)]
    omega
  | .tuple ds, h => by
    have ih := nice_shownAll ds (by simpa [nice] using h)
    have l := tupleText_len_le (PyData.shownAll ds)
    rw [shownAll_len] at l
    simp only [PyData.shown, wt]
    rw [Nat.mul_add (e + 110)]
    omega
  | .dict _, h => by simp [nice] at h
theorem nice_shownAll {e : Nat} : ∀ ds : List PyData, niceAll e ds = true → ((PyData.shownAll ds).map (·.length)).sum + 2 * ds.length ≤ (e + 110) * wtAll ds
  | [], _ => by simp [PyData.shownAll]
  | d :: ds, h => by
    have h' : nice e d = true ∧ niceAll e ds = true := by simpa [niceAll] using h
    have h1 := nice_shown d h'.1
    have h2 := nice_shownAll ds h'.2
    simp only [PyData.shownAll, List.map_cons, List.sum_cons, List.length_cons, wtAll]
    rw [Nat.mul_add (e + 110)]
    omega
end
mutual
theorem nice_showable {e : Nat} (he : e < 1900) : ∀ d : PyData, nice e d = true → d.showable = true
  | .none, _ => by simp [PyData.showable]
  | .bool b, _ => by simp [PyData.showable]
  | .int i, h => by
    have h' : i.natAbs < 2 ^ e := by simpa [nice] using h
    have := log_lt h'
    simp only [PyData.showable, decide_eq_true_eq]
    omega
  | .str x, h => by simp [PyData.showable]
  | .list ds, h => by simp only [PyData.showable]; exact nice_showableAll he ds (by simpa [nice] using h)
  | .tuple ds, h => by simp only [PyData.showable]; exact nice_showableAll he ds (by simpa [nice] using h)
  | .dict _, h => by simp [nice] at h
theorem nice_showableAll {e : Nat} (he : e < 1900) : ∀ ds : List PyData, niceAll e ds = true → PyData.showableAll ds = true
  | [], _ => by simp [PyData.showableAll]
  | d :: ds, h => by
    have h' : nice e d = true ∧ niceAll e ds = true := by simpa [niceAll] using h
    simp only [PyData.showableAll, nice_showable he d h'.1, nice_showableAll he ds h'.2, Bool.and_self]
end
mutual
theorem nice_lay {e : Nat} : ∀ d : PyData, nice e d = true → d.canLay0 = true
  | .none, _ => by simp [PyData.canLay0]
  | .bool b, _ => by simp [PyData.canLay0]
  | .int i, h => by simp [PyData.canLay0]
  | .str x, h => by
    have h' : x.length ≤ 10 ∧ PyData.strOk x = true := by simpa [nice] using h
    simp only [PyData.canLay0, h'.2]
  | .list ds, h => by simp only [PyData.canLay0]; exact nice_layAll ds (by simpa [nice] using h)
  | .tuple ds, h => by simp only [PyData.canLay0]; exact nice_layAll ds (by simpa [nice] using h)
  | .dict _, h => by simp [nice] at h
theorem nice_layAll {e : Nat} : ∀ ds : List PyData, niceAll e ds = true → PyData.canLayAll0 ds = true
  | [], _ => by simp [PyData.canLayAll0]
  | d :: ds, h => by
    have h' : nice e d = true ∧ niceAll e ds = true := by simpa [niceAll] using h
    simp only [PyData.canLayAll0, nice_lay d h'.1, nice_layAll ds h'.2, Bool.and_self]
end
theorem nice_shaped {e : Nat} {d : PyData} (h : nice e d = true) (hd : d.depth ≤ 64) : SeqAt.shaped d = true := by
  unfold SeqAt.shaped
  rw [nice_lay d h, decide_eq_true hd]
  rfl
mutual
theorem nice_more {e f : Nat} (hef : e ≤ f) : ∀ d : PyData, nice e d = true → nice f d = true
  | .none, _ => by simp [nice]
  | .bool b, _ => by simp [nice]
  | .int i, h => by
    have h' : i.natAbs < 2 ^ e := by simpa [nice] using h
    simp only [nice, decide_eq_true_eq]
    exact Nat.lt_of_lt_of_le h' (Nat.pow_le_pow_right (by decide) hef)
  | .str x, h => by simpa [nice] using h
  | .list ds, h => by simp only [nice]; exact nice_moreAll hef ds (by simpa [nice] using h)
  | .tuple ds, h => by simp only [nice]; exact nice_moreAll hef ds (by simpa [nice] using h)
  | .dict _, h => by simp [nice] at h
theorem nice_moreAll {e f : Nat} (hef : e ≤ f) : ∀ ds : List PyData, niceAll e ds = true → niceAll f ds = true
  | [], _ => by simp [niceAll]
  | d :: ds, h => by
    have h' : nice e d = true ∧ niceAll e ds = true := by simpa [niceAll] using h
    simp only [niceAll, nice_more hef d h'.1, nice_moreAll hef ds h'.2, Bool.and_self]
end
/-- data that is small: exponent of its numbers, weight, depth -/
structure Tiny (e W m : Nat) (d : PyData) : Prop where
  ni : nice e d = true
  we : wt d ≤ W
  de : d.depth ≤ m
theorem Tiny.mono {e W m e' W' m' : Nat} {d : PyData} (t : Tiny e W m d) (h1 : e ≤ e') (h2 : W ≤ W') (h3 : m ≤ m') : Tiny e' W' m' d :=
  ⟨nice_more h1 d t.ni, Nat.le_trans t.we h2, Nat.le_trans t.de h3⟩
theorem Tiny.shows {e W m : Nat} {d : PyData} (t : Tiny e W m d) (he : e < 1900) (hm : m ≤ 50) (hW : (e + 110) * W ≤ sizeLine) : d.showable = true ∧ d.depth ≤ 50 ∧ d.shown.length ≤ sizeLine := by
  refine ⟨nice_showable he d t.ni, Nat.le_trans t.de hm, ?_⟩
  have h1 := nice_shown d t.ni
  have h2 : (e + 110) * wt d ≤ (e + 110) * W := Nat.mul_le_mul_left _ t.we
  omega
/-- items of a piece of data -/
theorem wt_item : ∀ {ds : List PyData} {d : PyData}, d ∈ ds → wt d ≤ wtAll ds
  | x :: ds, d, h => by
    simp only [wtAll]
    rcases List.mem_cons.mp h with rfl | h
    · omega
    · have := wt_item h
      omega
theorem dpAll_len {K : PySem.W.Frag} {H : Hp} : ∀ {vs : List V} {ds : List PyData}, DpAll K H vs ds → vs.length = ds.length
  | _, _, .nil => rfl
  | _, _, .cons _ t => by simp only [List.length_cons, dpAll_len t]
theorem dpAll_get {K : PySem.W.Frag} {H : Hp} : ∀ {vs : List V} {ds : List PyData} {i : Nat} {v : V}, DpAll K H vs ds → vs[i]? = some v → ∃ d, ds[i]? = some d ∧ Dp K H v d
  | _, _, 0, v, .cons h _, e => by simp at e; subst e; exact ⟨_, rfl, h⟩
  | _, _, i + 1, v, .cons _ t, e => by
    obtain ⟨d, h1, h2⟩ := dpAll_get (i := i) (v := v) t (by simpa using e)
    exact ⟨d, by simpa using h1, h2⟩
theorem dpAll_append {K : PySem.W.Frag} {H : Hp} : ∀ {vs ws : List V} {ds es : List PyData}, DpAll K H vs ds → DpAll K H ws es → DpAll K H (vs ++ ws) (ds ++ es)
  | _, _, _, _, .nil, h => h
  | _, _, _, _, .cons a t, h => .cons a (dpAll_append t h)
theorem dpAll_take {K : PySem.W.Frag} {H : Hp} : ∀ {vs : List V} {ds : List PyData} (n : Nat), DpAll K H vs ds → DpAll K H (vs.take n) (ds.take n)
  | _, _, 0, _ => .nil
  | _, _, _ + 1, .nil => .nil
  | _, _, n + 1, .cons a t => .cons a (dpAll_take n t)
theorem dpAll_drop {K : PySem.W.Frag} {H : Hp} : ∀ {vs : List V} {ds : List PyData} (n : Nat), DpAll K H vs ds → DpAll K H (vs.drop n) (ds.drop n)
  | _, _, 0, h => h
  | _, _, _ + 1, .nil => .nil
  | _, _, n + 1, .cons _ t => dpAll_drop n t
theorem dpAll_reverse {K : PySem.W.Frag} {H : Hp} : ∀ {vs : List V} {ds : List PyData}, DpAll K H vs ds → DpAll K H vs.reverse ds.reverse
  | _, _, .nil => .nil
  | _, _, .cons a t => by
    rw [List.reverse_cons, List.reverse_cons]
    exact dpAll_append (dpAll_reverse t) (.cons a .nil)
/-! ### cuts: what is known behind a test or an expression, said once -/
section
variable {X : Cx}
theorem pt_cut {e : Expr} {t : TT} (h : PT X e t) : PT X e (fun σ H Q => ∃ G : Bool → Hp → Prop, t σ H G ∧ ∀ b J, G b J → Q b J) :=
  ⟨fun pins s σ H Q I ⟨G, g, q⟩ => thn (h.run pins s σ H G I g) fun b s1 ⟨J, I1, z⟩ => ⟨J, I1, q b J z⟩⟩
theorem pe_cut {e : Expr} {t : TE} (h : PE X e t) : PE X e (fun σ H Q => ∃ G : V → Hp → Prop, t σ H G ∧ ∀ v J, G v J → Q v J) :=
  ⟨fun pins s σ H Q I ⟨G, g, q⟩ => thn (h.run pins s σ H G I g) fun u s1 ⟨v, J, I1, r, z⟩ => ⟨v, J, I1, r, q v J z⟩⟩
/-! ### tuples: slices and sums, whatever object they are -/
theorem cut_whole (xs : List V) (lo hi : Option Int) (h : HT.sIx xs.length 0 lo = 0 ∧ HT.sIx xs.length xs.length hi = xs.length) : cutV xs lo hi = xs := by
  unfold cutV
  rw [h.1, h.2, List.drop_zero, Nat.sub_zero, List.take_of_length_le (Nat.le_refl _)]
def rCutS (K : PySem.W.Frag) : V → Option Int → Option Int → Hp → VK → Prop := fun x lo hi H Q => ∃ (a : Addr) (xs : List V), x = .ref a ∧ SqT K H a xs ∧ ∀ (t : Addr) (J : Hp), SqT K J t (cutV xs lo hi) → Same H J → Q (.ref t) J
theorem sl_tupS : SlR X (rCutS X.K) := by
  intro pins s σ H x v vl vu lo hi sl Q I rx hs pl pu h
  obtain ⟨a, xs, rfl, hx, q⟩ := h
  refine sl_tupA pins s σ H _ v vl vu lo hi sl Q I rx hs pl pu ⟨a, xs, rfl, hx, fun z => q a H ?_ (Same.refl H), fun _ p hp => q p _ (SqT.of upd_same) fun b o e => ?_⟩
  · rw [cut_whole xs lo hi z]
    exact hx
  · rw [upd_ne (ne_of_none e hp)]
    exact e
def rCatS (K : PySem.W.Frag) : R2 := fun x y H Q => ∃ (a b : Addr) (xs ys : List V), x = .ref a ∧ y = .ref b ∧ SqT K H a xs ∧ SqT K H b ys ∧ xs.length + ys.length ≤ sizeLine ∧
  ∀ (t : Addr) (J : Hp), SqT K J t (xs ++ ys) → Same H J → Q (.ref t) J
theorem op_catS : OpR X (binaryOp .Add) (rCatS X.K) := by
  intro pins s σ H x y v u Q I rx ry h
  obtain ⟨a, b, xs, ys, rfl, rfl, ha, hb, hz, q⟩ := h
  refine op_catA pins s σ H _ _ v u Q I rx ry ⟨a, b, xs, ys, rfl, rfl, ha, hb, hz, fun e => q b H ?_ (Same.refl H), fun _ e => q a H ?_ (Same.refl H), fun _ _ p hp => q p _ (SqT.of upd_same) fun c o e => ?_⟩
  · rw [e]
    exact hb
  · rw [e, List.append_nil]
    exact ha
  · rw [upd_ne (ne_of_none e hp)]
    exact e
end
/-! ### t[::-1] of a tuple -/
section
variable {prog : Program} {w : World} {A : Around} {E : Value → Shared → Prop} {s : Shared}
theorem back_parts (n : Nat) : Builtin.Slice.sliceAdjust none none (-1) (n : Int) = ((n : Int) - 1, -1) ∧ Builtin.Slice.slicePlaces ((n : Int) - 1) (-1) (-1) = n := by
  constructor
  · unfold Builtin.Slice.sliceAdjust
    simp
  · unfold Builtin.Slice.slicePlaces
    have h1 : ¬ ((-1 : Int) > 0) := by omega
    have h2 : -(-1 : Int) = 1 := rfl
    rw [if_neg h1, h2, Int.ediv_one]
    split <;> omega
theorem fm_congr {α β : Type} {f g : α → Option β} : ∀ l : List α, (∀ x ∈ l, f x = g x) → l.filterMap f = l.filterMap g
  | [], _ => rfl
  | x :: l, h => by
    rw [List.filterMap_cons, List.filterMap_cons, h x List.mem_cons_self, fm_congr l fun y hy => h y (List.mem_cons_of_mem _ hy)]
theorem back_pick (xs : Array Value) : ((List.range xs.size).filterMap fun (k : Nat) => xs[(((xs.size : Int) - 1) + (k : Int) * (-1)).toNat]?).toArray = xs.toList.reverse.toArray := by
  have g := HT.pick_gen xs.reverse 0 xs.size
  rw [List.drop_zero, List.take_of_length_le (by simp)] at g
  rw [Array.toList_reverse] at g
  rw [← g]
  refine congrArg List.toArray (fm_congr _ fun k hk => ?_)
  have hk' : k < xs.size := List.mem_range.mp hk
  have e1 : (((xs.size : Int) - 1) + (k : Int) * (-1)).toNat = xs.size - 1 - k := by omega
  have e2 : (((0 : Nat) : Int) + (k : Int) * 1).toNat = k := by omega
  rw [e1, e2, Array.getElem?_reverse hk']
theorem back_applied {c : Addr} {st : Value} {n : Nat} {Q : Int × Int × Nat → Shared → Prop} (hS : s.heap.IsSliceOf c .none .none st) (hp : IsPart st (some (-1))) (h : Q ((n : Int) - 1, -1, n) s) :
    wpAny (model prog w) A (Builtin.Slice.sliceApplied (.ref c) (pure (n : Int))) Q E s := by
  obtain ⟨ob, o1, o2, o3⟩ := id hS
  unfold Builtin.Slice.sliceApplied Builtin.Slice.sliceFields
  refine wpAny_bind (wpAny_bind (wpAny_field o1 o3 (x := .none) rfl (wpAny_bind (wpAny_field o1 o3 (x := .none) rfl (wpAny_bind (wpAny_field o1 o3 (x := st) rfl (wpAny_pure ?_)))))))
  refine wpAny_bind (HT.slicePart_ hp ?_)
  show wpAny _ _ (if ((-1 : Int) == 0) = true then _ else _) _ _ s
  rw [if_neg (by decide)]
  refine wpAny_bind (slicePart_none (wpAny_bind (slicePart_none (wpAny_bind (wpAny_pure ?_)))))
  show wpAny _ _ (match Builtin.Slice.sliceAdjust none none (-1) (n : Int) with | (lo, hi) => pure (lo, (-1 : Int), Builtin.Slice.slicePlaces lo hi (-1))) _ _ s
  rw [(back_parts n).1]
  show wpAny _ _ (pure ((n : Int) - 1, (-1 : Int), Builtin.Slice.slicePlaces ((n : Int) - 1) (-1) (-1))) _ _ s
  rw [(back_parts n).2]
  exact wpAny_pure h
theorem getItem_back {t c : Addr} {its : Array Value} {st : Value} {Q : Value → Shared → Prop} (hT : IsTup s.heap t its) (hS : s.heap.IsSliceOf c .none .none st) (hp : IsPart st (some (-1))) (hz : its.size ≤ sizeLine)
    (h : Q (.ref s.heap.objs.size) { s with heap := s.heap.push { cls := .type "tuple", data := .seq its.toList.reverse.toArray } }) : wpAny (model prog w) A (getItem (.ref t) (.ref c)) Q E s := by
  have fits : sizeOk (.seq its.toList.reverse.toArray) := by
    show its.toList.reverse.toArray.size ≤ sizeLine
    rw [List.size_toArray, List.length_reverse, Array.length_toList]
    exact hz
  obtain ⟨ob, o1, o2, o3⟩ := id hS
  have isS : s.TypeIs (.ref c) "slice" := ⟨ob, o1, o2⟩
  unfold getItem
  try with_reducible refine wpAny_holding ?_
  first | refine wpAny_bind (wpAny_pure ?_) | skip
  refine wpAny_bind (wpAny_sequenceKey hT.typeIs (by decide) ?_)
  have sl := PyProof.Rows.slot_tuple_getitem
  refine wpAny_bind (wpAny_callSpecial?_slot (name := Str.ofString "__getitem__") hT.typeIs sl (wpAny_call_entry sl hT.typeIs PyProof.Rows.entry_tuple_getitem ?_ (PyProof.Rows.args_tuple_getitem _ _)))
  show wpAny _ _ (Builtin.Tuple.tupleItemsOf (.ref t) >>= _) _ _ s
  refine wpAny_bind (PyProof.Rows.tupleItemsOf_ hT (wpAny_bind (wpAny_typeOf isS ?_)))
  rw [if_pos (by decide)]
  refine wpAny_bind (back_applied hS hp ?_)
  show wpAny _ _ (if ((((its.size : Nat) : Int) - 1 == 0 && (-1 : Int) == 1 && its.size == its.size) = true) then _ else _) _ _ s
  have no : ¬ ((((its.size : Nat) : Int) - 1 == 0 && (-1 : Int) == 1 && its.size == its.size) = true) := by simp
  rw [if_neg no, back_pick]
  first
    | exact wpAny_bind (m := Builtin.Tuple.tupleExact _) (wpAny_newObj_type (wpAny_pure ⟨_, rfl, wpAny_pure h⟩) fits)
    | exact wpAny_bind (m := Builtin.Tuple.tupleExact _) (wpAny_newObj_type (wpAny_bind (wpAny_pure (wpAny_pure ⟨_, rfl, wpAny_pure h⟩))) fits)
    | exact wpAny_bind (wpAny_bind (m := Builtin.Tuple.tupleExact _) (wpAny_newObj_type (wpAny_pure (wpAny_pure ⟨_, rfl, wpAny_pure h⟩)) fits))
    | exact wpAny_bind (wpAny_bind (m := Builtin.Tuple.tupleExact _) (wpAny_newObj_type (wpAny_pure ⟨_, rfl, wpAny_pure h⟩) fits))
end
section
variable {X : Cx}
def tBackT (K : PySem.W.Frag) (te : TE) : TE := fun σ H Q => te σ H fun x J => ∃ (a : Addr) (xs : List V), x = .ref a ∧ SqT K J a xs ∧ ∀ p, J p = none → Q (.ref p) (upd J p (.tup xs.reverse))
theorem pe_revT {e : Expr} {te : TE} {k : Nat} {p1 p2 p3 pos : Pos} (he : PE X e te) : PE X (.Subscript e (.Slice none none (some (.UnaryOp .USub (.Constant (.int 1) k p1) p2)) p3) pos) (tBackT X.K te) := by
  refine ⟨fun pins s σ H Q I h => Subscript_ (thn (he.run pins s σ H _ I h) fun v s1 ⟨x, H1, I1, r1, a, xs, ex, hx, q⟩ => ?_)⟩
  subst ex
  cases r1
  have step : PO X (some (.UnaryOp .USub (.Constant (.int 1) k p1) p2)) _ := po_some (pe_un un_neg pe_int)
  refine wpAny_Slice (thn (po_none.run pins s1 σ H1 (fun o L => o = none ∧ L = H1) I1 ⟨rfl, rfl⟩) fun vl s2 ⟨l, H2, I2, pl, el, e2⟩ => ?_)
  subst el e2
  refine thn (po_none.run pins s2 σ H2 (fun o L => o = none ∧ L = H2) I2 ⟨rfl, rfl⟩) fun vu s3 ⟨u, H3, I3, pu, eu, e3⟩ => ?_
  subst eu e3
  refine thn (step.run pins s3 σ H3 (fun o L => o = some (-1) ∧ L = H3) I3 ⟨1, rfl, -1, rfl, rfl, rfl⟩) fun vs s4 ⟨o, H4, I4, ps, eo, e4⟩ => ?_
  subst eo e4
  cases pl
  cases pu
  have I5 : Inv X pins σ H4 { s4 with heap := s4.heap.push { cls := .type "slice", data := .fields #[.none, .none, vs] } } := I4.kept (t' := s4.toks) fun b ob z => Heap.get?_push_of_some _ z
  obtain ⟨its, r, isT, hz⟩ := I5.tuple hx
  have hlen := r.length
  show wpAny (model X.prog X.w) X.A (subscriptTail e (.Slice none none (some (.UnaryOp .USub (.Constant (.int 1) k p1) p2)) p3) (.ref a) (.ref s4.heap.objs.size)) (EP X pins σ Q) X.xe { s4 with heap := s4.heap.push { cls := .type "slice", data := .fields #[.none, .none, vs] } }
  refine tail_any (ops := [.ref a, .ref s4.heap.objs.size]) isT.typeIs PyProof.Rows.slot_tuple_getitem.lookup ?_ (by with_unfolding_all rfl)
  refine getItem_back isT (Heap.IsSliceOf.new _ .none .none vs) ps (by rw [List.size_toArray]; omega) ?_
  refine ⟨.ref _, _, I5.laid (t' := s4.toks) (o := .tup xs.reverse) (fun b ob z => Heap.get?_push_of_some _ z) (Nat.le_refl _) ?_, rfl, q _ (I5.hok.fresh (Nat.le_refl _))⟩
  exact ⟨by rw [List.length_reverse]; exact hz, its.reverse, r.reverse, _, Heap.get?_push_size _ rfl, rfl, _, rfl⟩
end
/-! ### x in a tuple of data -/
section
variable {X : Cx}
def rInT (K : PySem.W.Frag) : R2 := fun x y H Q => ∃ d ds, Dp K H x d ∧ Dp K H y (.tuple ds) ∧ SeqAt.shaped d = true ∧ SeqAt.shaped (.tuple ds) = true ∧ Q (.bl (ds.any fun z => PyData.eqv z d)) H
theorem op_inT (hu : X.A.units + 65 < cLine) : OpR X (compareOp .In) (rInT X.K) := by
  intro pins s σ H x y v u Q I rx ry h
  obtain ⟨d, ds, hd, he, sd, se, q⟩ := h
  obtain ⟨as, r1⟩ := Dp.reads I d x v hd rx
  obtain ⟨bs, r2⟩ := Dp.reads I (.tuple ds) y u he ry
  exact SeqAt.in_tuple_reads r2 r1 (SeqAt.canLay_of_shaped se) (SeqAt.canLay_of_shaped sd) (room_in_shaped sd hu) ⟨.bl _, H, I, rfl, q⟩
end
/-- a tuple of the module's own -/
def TupOf (o : Obj) (xs : List V) : Prop := ∃ (its : Array Value) (n : Nat), o.cls = .type "tuple" ∧ o.data = .seq its n ∧ its.size ≤ sizeLine ∧ Vals xs its.toList
theorem TupOf.sq {K : PySem.W.Frag} {a : Addr} {o : Obj} {xs : List V} (t : TupOf o xs) (h : K.lookup a = some o) : SqT K (fun _ => none) a xs := by
  obtain ⟨its, n, c, d, z, r⟩ := t
  exact Or.inr ⟨o, its, n, h, c, d, z, r⟩
theorem sq_any {K : PySem.W.Frag} {H : Hp} {a : Addr} {xs : List V} (h : SqT K (fun _ => none) a xs) : SqT K H a xs := sameT (fun _ _ z => by cases z) h
theorem hu65 {A : Around} {k : Nat} (hr : Room k A) : A.units + 65 < cLine := by
  have := hr.un
  omega
/-! ### rules with the written part said, for what stands in a comprehension -/
section
variable {X : Cx}
def rLenK (K : PySem.W.Frag) : List V → Hp → VK → Prop := fun xs H Q => ∃ p ys, xs = [V.ref p] ∧ (SqL K H p ys ∨ SqT K H p ys) ∧ Q (.int ys.length) H
theorem lenK (K : PySem.W.Frag) (h : X.K = K) : CallR X (.builtin "len") (rLenK K) := h ▸ call_len_seq
theorem ixLK (K : PySem.W.Frag) (h : X.K = K) : IxR X (rIxL K) := h ▸ ix_list
theorem ixTK (K : PySem.W.Frag) (h : X.K = K) : IxR X (rIxT K) := h ▸ ix_tup
theorem isDK (K : PySem.W.Frag) (T : String) (hT : T ∈ ["tuple", "int", "bool", "str", "list"]) (h : X.K = K) : CallR X (.builtin "isinstance") (rIsD K T) := h ▸ call_isD T hT
theorem catSK (K : PySem.W.Frag) (h : X.K = K) : OpR X (binaryOp .Add) (rCatS K) := h ▸ op_catS
theorem inK (K : PySem.W.Frag) (h : X.K = K) : OpR X (compareOp .In) (rIn K false) := h ▸ op_in_seq
theorem notInK (K : PySem.W.Frag) (h : X.K = K) : OpR X (compareOp .NotIn) (rIn K true) := h ▸ op_notIn_seq
theorem slSK (K : PySem.W.Frag) (h : X.K = K) : SlR X (rCutS K) := h ▸ sl_tupS
end
/-! ### what may change while a script is drawn from, and while code runs that has tables -/
/-- the heap without the tables of code: where data stands -/
def offT (H : Hp) : Hp := fun b => match H b with
  | some (.tbl _) => none
  | o => o
theorem offT_at {b : Addr} {H : Hp} {o : HO} (h : H b = some o) (nt : ∀ q, o ≠ .tbl q := by intro _ z; cases z) : offT H b = some o := by
  unfold offT
  rw [h]
  cases o <;> first | rfl | exact absurd rfl (nt _)
theorem offT_some {b : Addr} {H : Hp} {o : HO} (h : offT H b = some o) : H b = some o ∧ ∀ q, o ≠ .tbl q := by
  unfold offT at h
  cases e : H b with
  | none => rw [e] at h; cases h
  | some u =>
    rw [e] at h
    cases u <;> first | (cases h; done) | (cases h; exact ⟨rfl, fun _ z => by cases z⟩)
/-- the heap without p and the tables of code: where data stands that does not change -/
def off (p : Addr) (H : Hp) : Hp := fun b => if b = p then none else offT H b
theorem off_at {p b : Addr} {H : Hp} {o : HO} (n : b ≠ p) (h : H b = some o) (nt : ∀ q, o ≠ .tbl q := by intro _ z; cases z) : off p H b = some o := by
  unfold off
  rw [if_neg n]
  exact offT_at h nt
theorem off_same {p : Addr} {H : Hp} : off p H p = none := if_pos rfl
theorem off_none {p b : Addr} {H : Hp} (h : H b = none) : off p H b = none := by
  unfold off offT
  rw [h]
  split <;> rfl
theorem off_some {p b : Addr} {H : Hp} {o : HO} (h : off p H b = some o) : b ≠ p ∧ H b = some o ∧ ∀ q, o ≠ .tbl q := by
  by_cases e : b = p
  · rw [e, off_same] at h
    cases h
  · unfold off at h
    rw [if_neg e] at h
    exact ⟨e, offT_some h⟩
theorem off_in {p : Addr} {H : Hp} : Same (off p H) H := fun b o h => (off_some h).2.1
theorem offT_in {H : Hp} : Same (offT H) H := fun b o h => (offT_some h).1
/-- tables only grow -/
def Tabs (H J : Hp) : Prop := ∀ b q, H b = some (.tbl q) → ∃ q', J b = some (.tbl q') ∧ (TriplesOk q.toList → TriplesOk q'.toList)
theorem Tabs.trans {H J L : Hp} (a : Tabs H J) (b : Tabs J L) : Tabs H L := fun c q e => let ⟨q', e', f⟩ := a c q e; let ⟨q2, e2, f2⟩ := b c q' e'; ⟨q2, e2, fun z => f2 (f z)⟩
theorem Tabs.of_same {H J : Hp} (h : Same H J) : Tabs H J := fun b q e => ⟨q, h _ _ e, id⟩
theorem Tabs.tab {H J : Hp} (h : Tabs H J) {P : Addr} (g : GxR.TabG H P) : GxR.TabG J P := let ⟨q, e, z⟩ := g; let ⟨q', e', f⟩ := h P q e; ⟨q', e', f z⟩
theorem Tabs.put {q : Addr} {G J : Hp} {o : HO} (h : Tabs G J) (n : G q = none) : Tabs G (upd J q o) := fun b x e => by
  rw [upd_ne (ne_of_none e n)]
  exact h b x e
/-- all data is as it was, tables of code may have grown -/
structure Grow (H J : Hp) : Prop where
  s : Same (offT H) (offT J)
  t : Tabs H J
theorem Grow.refl (H : Hp) : Grow H H := ⟨Same.refl _, Tabs.of_same (Same.refl _)⟩
theorem Grow.trans {H J L : Hp} (a : Grow H J) (b : Grow J L) : Grow H L := ⟨a.s.trans b.s, a.t.trans b.t⟩
theorem Grow.of_same {H J : Hp} (h : Same H J) : Grow H J := ⟨fun b u e => let z := offT_some e; offT_at (h _ _ z.1) z.2, Tabs.of_same h⟩
theorem Grow.new {q : Addr} {H : Hp} {o : HO} (h : H q = none) : Grow H (upd H q o) := Grow.of_same fun b u e => by
  rw [upd_ne (ne_of_none e h)]
  exact e
theorem Grow.at {a : Addr} {H J : Hp} {o : HO} (k : Grow H J) (h : H a = some o) (nt : ∀ q, o ≠ .tbl q := by intro _ z; cases z) : J a = some o := (offT_some (k.s a o (offT_at h nt))).1
theorem Grow.write {q : Addr} {G J : Hp} {o : HO} (k : Grow G J) (h : G q = none) : Grow G (upd J q o) :=
  ⟨fun b u e => let z := offT_some e; offT_at (by rw [upd_ne (ne_of_none z.1 h)]; exact k.at z.1 z.2) z.2, k.t.put h⟩
theorem Grow.tabbed {P : Addr} {H J : Hp} (g : GxR.TabG H P) (h : GxR.Tabbed P H J) : Grow H J := by
  obtain ⟨⟨q', e', z'⟩, k⟩ := h
  obtain ⟨q, e, _⟩ := g
  refine ⟨fun b u eb => ?_, fun b x eb => ?_⟩
  · have y := offT_some eb
    have bp : b ≠ P := fun w => by
      rw [w, e] at y
      exact y.2 q (Option.some.inj y.1).symm
    exact offT_at (by rw [k b bp]; exact y.1) y.2
  · by_cases bp : b = P
    · rw [bp]
      exact ⟨q', e', fun _ => z'⟩
    · exact ⟨x, by rw [k b bp]; exact eb, id⟩
theorem Grow.free {q : Addr} {H J : Hp} (k : Grow H J) (h : J q = none) : H q = none := by
  cases e : H q with
  | none => rfl
  | some o =>
    cases o with
    | tbl x =>
      obtain ⟨x', e', _⟩ := k.t q x e
      rw [e'] at h
      cases h
    | _ =>
      rw [k.at e] at h
      cases h
theorem Grow.seq {K : PySem.W.Frag} {a : Addr} {H J : Hp} {xs : List V} (k : Grow H J) (h : SqL K H a xs) : SqL K J a xs := by
  rcases h with (h | ⟨o, h⟩) | h
  · exact Or.inl (Or.inl (k.at h))
  · exact Or.inl (Or.inr ⟨o, k.at h⟩)
  · exact Or.inr h
theorem Grow.tup {K : PySem.W.Frag} {a : Addr} {H J : Hp} {xs : List V} (k : Grow H J) (h : SqT K H a xs) : SqT K J a xs := by
  rcases h with (h | ⟨o, h⟩) | h
  · exact Or.inl (Or.inl (k.at h))
  · exact Or.inl (Or.inr ⟨o, k.at h⟩)
  · exact Or.inr h
/-- all but p and the tables is as it was, and p's first item is the same object -/
structure Keep (p : Addr) (H J : Hp) : Prop where
  s : Same (off p H) (off p J)
  h : ∀ (l : Addr) (r : List V), H p = some (.lst (.ref l :: r)) → ∃ r', J p = some (.lst (.ref l :: r'))
  t : Tabs H J
theorem Keep.refl (p : Addr) (H : Hp) : Keep p H H := ⟨Same.refl _, fun _ r h => ⟨r, h⟩, Tabs.of_same (Same.refl _)⟩
theorem Keep.trans {p : Addr} {H J L : Hp} (a : Keep p H J) (b : Keep p J L) : Keep p H L := ⟨a.s.trans b.s, fun l r h => let ⟨r', h'⟩ := a.h l r h; b.h l r' h', a.t.trans b.t⟩
theorem Keep.put {p l : Addr} {H : Hp} {r r' : List V} (h : H p = some (.lst (.ref l :: r))) : Keep p H (upd H p (.lst (.ref l :: r'))) := by
  refine ⟨fun b u e => ?_, fun m z e => ?_, fun b q e => ?_⟩
  · have q := off_some e
    exact off_at q.1 (by rw [upd_ne q.1]; exact q.2.1) q.2.2
  · rw [h] at e
    cases e
    exact ⟨r', upd_same⟩
  · have n : b ≠ p := fun z => by
      rw [z, h] at e
      cases e
    exact ⟨q, by rw [upd_ne n]; exact e, id⟩
theorem Keep.of_grow {p : Addr} {H J : Hp} (g : Grow H J) : Keep p H J := by
  refine ⟨fun b u e => ?_, fun l r e => ⟨r, g.at e⟩, g.t⟩
  have z := off_some e
  exact off_at z.1 (g.at z.2.1 z.2.2) z.2.2
theorem Keep.of_same {p : Addr} {H J : Hp} (h : Same H J) : Keep p H J := Keep.of_grow (Grow.of_same h)
theorem Keep.new {p q : Addr} {H : Hp} {o : HO} (h : H q = none) : Keep p H (upd H q o) := Keep.of_same fun b u e => by
  rw [upd_ne (ne_of_none e h)]
  exact e
theorem Keep.at {p a : Addr} {H J : Hp} {o : HO} (k : Keep p H J) (n : a ≠ p) (h : H a = some o) (nt : ∀ q, o ≠ .tbl q := by intro _ z; cases z) : J a = some o :=
  (off_some (k.s a o (off_at n h nt))).2.1
/-- an object that was not yet there is changed -/
theorem Keep.write {p q : Addr} {G J : Hp} {o : HO} (k : Keep p G J) (h : G q = none) (n : q ≠ p) : Keep p G (upd J q o) := by
  refine ⟨fun b u e => ?_, fun m r e => ?_, k.t.put h⟩
  · have z := off_some e
    exact off_at z.1 (by rw [upd_ne (ne_of_none z.2.1 h)]; exact k.at z.1 z.2.1 z.2.2) z.2.2
  · obtain ⟨r', q⟩ := k.h m r e
    exact ⟨r', by rw [upd_ne n.symm]; exact q⟩
theorem seq_off {K : PySem.W.Frag} {p a : Addr} {H : Hp} {xs : List V} (n : a ≠ p) (h : SqL K H a xs) : SqL K (off p H) a xs := by
  rcases h with (h | ⟨o, h⟩) | h
  · exact Or.inl (Or.inl (off_at n h))
  · exact Or.inl (Or.inr ⟨o, off_at n h⟩)
  · exact Or.inr h
theorem Keep.seq {K : PySem.W.Frag} {p a : Addr} {H J : Hp} {xs : List V} (k : Keep p H J) (n : a ≠ p) (h : SqL K H a xs) : SqL K J a xs := off_in.seq (k.s.seq (seq_off n h))
theorem tup_off {K : PySem.W.Frag} {p a : Addr} {H : Hp} {xs ys : List V} (hp : H p = some (.lst ys)) (h : SqT K H a xs) : SqT K (off p H) a xs := by
  rcases h with (h | ⟨o, h⟩) | h
  · exact Or.inl (Or.inl (off_at (ne_of h hp (by intro z; cases z)) h))
  · exact Or.inl (Or.inr ⟨o, off_at (ne_of h hp (by intro z; cases z)) h⟩)
  · exact Or.inr h
/-! ### tuple(e for x in range(..) if t): numbers, told by the place -/
section
variable {X : Cx}
theorem cr_rangeOne : CallR X (.type "range") (fun vs H Q => ∃ j : Int, vs = [.int j] ∧ ∀ p, H p = none → Q (.ref p) (upd H p (.rng 0 j))) := by
  intro pins s σ H vs us Q I r h
  obtain ⟨j, rfl, q⟩ := h
  obtain ⟨u, rfl, t, rfl⟩ := vals1 r
  refine call_range_1 ⟨.ref s.heap.objs.size, upd H s.heap.objs.size (.rng 0 j), I.laid (t' := s.toks + 1 + 1) (fun b o e => Heap.get?_push_of_some _ e) (Nat.le_refl _) ?_, rfl, q _ (I.hok.fresh (Nat.le_refl _))⟩
  exact ⟨s.toks, t, s.toks + 1, Heap.get?_push_size _ rfl⟩
theorem cr_rangeTwo : CallR X (.type "range") (fun vs H Q => ∃ i j : Int, vs = [.int i, .int j] ∧ ∀ p, H p = none → Q (.ref p) (upd H p (.rng i j))) := by
  intro pins s σ H vs us Q I r h
  obtain ⟨i, j, rfl, q⟩ := h
  obtain ⟨u1, u2, rfl, ⟨t, rfl⟩, ⟨u, rfl⟩⟩ := vals2 r
  refine call_range_2 ⟨.ref s.heap.objs.size, upd H s.heap.objs.size (.rng i j), I.laid (t' := s.toks + 1) (fun b o e => Heap.get?_push_of_some _ e) (Nat.le_refl _) ?_, rfl, q _ (I.hok.fresh (Nat.le_refl _))⟩
  exact ⟨t, u, s.toks, Heap.get?_push_size _ rfl⟩
end
theorem vals_at {f : Nat → Int} : ∀ (l : List Nat) (us : List Value), us.length = l.length → (∀ (j : Nat) (v : Value), us[j]? = some v → ∃ i, l[j]? = some i ∧ ∃ t, v = .int (f i) t) → Vals (l.map fun i => V.int (f i)) us
  | [], [], _, _ => .nil
  | [], _ :: _, h, _ => by simp at h
  | _ :: _, [], h, _ => by simp at h
  | i :: l, u :: us, h, g => by
    obtain ⟨i', e, t, ht⟩ := g 0 u rfl
    have e' : i = i' := Option.some.inj e
    rw [List.map_cons]
    refine .cons (by rw [e']; exact ⟨t, ht⟩) (vals_at l us (by simpa using h) fun j v hv => ?_)
    obtain ⟨k, e2, z⟩ := g (j + 1) v hv
    exact ⟨k, e2, z⟩
/-- the tests and the element of a generator expression, at its i-th place, wherever its frame stands -/
def ElemOk (X : Cx) (scope : Scope) (x : Str) (ifs : List Expr) (elt : Expr) (lo : Int) (n : Nat) (pz : Nat → Bool) (f : Nat → Int) (P : Addr) (s1 : Shared) : Prop :=
  ∀ (cenv : Env) (A' : Around) (E' : Value → Shared → Prop) (i : Nat) (t : Tok) (s2 : Shared) (m2 : Str → Option Value), i < n → cenv.scope = scope → cenv.cells = cloFrom X.env.cells scope.names [] → A'.handled = none →
    s2.heap.Ns cenv.locals m2 → m2 x = some (.int (lo + i) t) → (∀ b o, b ≠ P → s1.heap.get? b = some o → s2.heap.get? b = some o) →
      wpAny (model X.prog X.w) A' (forIn ifs true fun c r => if r = true then do let ok ← isTrue c cenv (eval c cenv); pure (ForInStep.yield ok) else pure (ForInStep.yield r)) (fun ok s3 => ok = pz i ∧ PySem.Keeps s2 s3) E' s2 ∧
      (pz i = true → wpAny (model X.prog X.w) A' (eval elt cenv) (fun y s3 => (∃ u, y = .int (f i) u) ∧ PySem.Keeps s2 s3) E' s2)
def tTupG (X : Cx) (P : Addr) (scope : Scope) (x : Str) (ifs : List Expr) (elt : Expr) (te : TE) : TE := fun σ H Q => te σ H fun v H1 => ∃ (r : Addr) (lo hi : Int) (pz : Nat → Bool) (f : Nat → Int), v = .ref r ∧ H1 r = some (.rng lo hi) ∧ -(2 ^ 62) ≤ lo ∧ lo < 2 ^ 62 ∧ -(2 ^ 62) ≤ hi ∧ hi < 2 ^ 62 ∧
  (hi - lo).toNat ≤ sizeLine ∧ GxR.TabG H1 P ∧ (∀ pins s1, Inv X pins σ H1 s1 → ElemOk X scope x ifs elt lo (hi - lo).toNat pz f P s1) ∧
  ∀ (t : Addr) (H2 : Hp), GxR.Tabbed P H1 H2 → H2 t = none → Q (.ref t) (upd H2 t (.tup (((List.range (hi - lo).toNat).filter pz).map fun i => V.int (f i))))
section
variable {X : Cx}
theorem pe_tupG {c P : Addr} {elt iter : Expr} {ifs : List Expr} {x : Str} {px p pos gpos : Pos} {scope : Scope} {te : TE} {k : Nat}
    (hr : Room k X.A) (hg : Gl X "tuple") (hm : X.mg "tuple" = none) (TB : GxR.TabB X.base X.mg c P) (hcode : X.env.code = .ref c) (S : GxR.GenS X.env scope x) (hi : PE X iter te) (hs : ∀ v, genFold iter X.env v = pure v)
    (hc : X.calm = true) (he : starEach [.GeneratorExp elt [⟨.Name x px, iter, ifs, 0⟩] scope gpos] X.env = (false, eval (.GeneratorExp elt [⟨.Name x px, iter, ifs, 0⟩] scope gpos) X.env) :: starEach [] X.env := by rfl) :
    PE X (.Call (.Name "tuple" p) [.GeneratorExp elt [⟨.Name x px, iter, ifs, 0⟩] scope gpos] [] pos) (tTupG X P scope x ifs elt te) := by
  refine ⟨fun pins s σ H Q I h => ?_⟩
  refine wpAny_Call_Name_kw (ld_blt I hg hm (show bootBuiltins "tuple" = some (.type "tuple") by decide +kernel) ?_)
  refine PyProof.Rows.callWith_type1 ?_ he (by rfl)
  rw [he]
  show wpAny _ _ (spliced ((false, eval (.GeneratorExp elt [⟨.Name x px, iter, ifs, 0⟩] scope gpos) X.env) :: backTo pos (starEach [] X.env))) _ _ s
  refine Calls.spliced_cons ?_
  refine wpAny_GeneratorExp_walksQ (I.ok.hd hc) S.co (closure_ok S.free) S.cell S.dot S.loc S.kind (by have := hr.dp; omega) ?_ hs
  refine thn (hi.run pins s σ H _ I h) fun xv s1 ⟨v, H1, I1, r1, r, lo, hi', pz, f, ev, hR, b1, b2, b3, b4, hz, ⟨ps, hP, ht⟩, hE, q⟩ => ?_
  subst ev
  cases r1
  obtain ⟨ta, tb, tc, hRo⟩ := I1.hok r _ hR
  refine wpAny_pyIter_range hRo (small_one b1 b2 b3 b4) ?_
  have hn : Builtin.Range.rangeSize lo hi' 1 = ((hi' - lo).toNat : Int) := by
    rw [rangeSize_one]
    split <;> omega
  rw [hn]
  generalize hO : ({ cls := .type "range_iterator", data := .fields #[rawInt lo, rawInt ((hi' - lo).toNat : Int), rawInt 1] } : Obj) = ob
  have hIt : IsRangeIter (s1.heap.push ob) s1.heap.objs.size lo ((hi' - lo).toNat : Int) 1 := by
    rw [← hO]
    exact Heap.get?_push_size _ rfl
  have gP : s1.heap.get? P = some { cls := .none, data := .fields ps } := I1.hok P _ hP
  have Plt : P < s1.heap.objs.size := Heap.lt_size gP
  have gP2 : (s1.heap.push ob).get? P = some { cls := .none, data := .fields ps } := Heap.get?_push_of_some _ gP
  have cd : PySem.W.CodeHd (s1.heap.push ob) c P := TB.code.keeps fun b u e => Heap.get?_push_of_some _ (I1.bk b u e)
  have lim2 : (s1.heap.push ob).NoLimit := I1.nolimit.push ob
  have main : ∀ (code : Value) (h3 : Heap) (tk : Nat) (qs : Array Value), Heap.ExtBut P (s1.heap.push ob) h3 → (s1.heap.push ob).objs.size ≤ h3.objs.size → h3.get? P = some { cls := .none, data := .fields qs } → (∃ more, qs = ps ++ more) → TriplesOk qs.toList →
      wpAny (model X.prog X.w) X.A (builtinsFor X.env.globals X.env.builtins) (fun bi s4 =>
        ∃ Ia fp wr n0 Pf St0 pz F, Value.ref s1.heap.objs.size = .ref Ia ∧ (∀ A' : Around, A'.handled = none → Walks X.prog X.w A' Ia fp wr n0 Pf St0) ∧ St0 0 s4.heap ∧ (∀ b ∈ fp, b < s4.heap.objs.size) ∧ s4.heap.NoLimit ∧ cStatics ∉ wr ∧
          (∀ href : Heap, (∀ b o, s4.heap.get? b = some o → href.get? b = some o) →
            QuietGen X.prog X.w (genEnv scope (cloFrom X.env.cells scope.names []) s4.heap.objs.size code bi X.env) x ifs elt (List.range s4.heap.objs.size) wr Pf pz F href) ∧
          (∀ a h5 tk gs, gs.bare = true → s4.heap.objs.size < a → h5.objs.size = a + 1 → (∀ b o, s4.heap.get? b = some o → h5.get? b = some o) →
            WalksS X.prog X.w X.A.in4 a (a :: s4.heap.objs.size :: List.range s4.heap.objs.size) (s4.heap.objs.size :: wr) (GenOnlyQ s4.gens.size) (passing pz n0 0).length
              (fun j y => ∃ i, (passing pz n0 0)[j]? = some i ∧ F i y) (GenAt X.prog X.w X.A.in4 a s4.gens.size s4.heap.objs.size (List.range s4.heap.objs.size) wr pz n0 F) →
            GenAt X.prog X.w X.A.in4 a s4.gens.size s4.heap.objs.size (List.range s4.heap.objs.size) wr pz n0 F 0 { s4 with gens := s4.gens.push gs, toks := tk, heap := h5 } →
            wpAny (model X.prog X.w) X.A (spliced (backTo pos (starEach [] X.env)))
              (fun a_1 s' => wpAny (model X.prog X.w) X.A (call (.type "tuple") (.ref a :: a_1)) (EP X pins σ Q) X.xe s') X.xe { s4 with gens := s4.gens.push gs, toks := tk, heap := h5 })) X.xe { s1 with heap := h3, toks := tk } := by
    intro code h3 tk qs hx hsz gP3 hmore ht3
    obtain ⟨bm, bo, e1, e2, e3, e4, e5, e6, e7, e8⟩ := TB.bm
    have csP : cStatics ≠ P := fun e => by
      obtain ⟨_, hns, _⟩ := I1.nolimit
      obtain ⟨o', es, ep, ho, hd, _⟩ := hns
      rw [e, gP] at ho
      cases ho
      cases hd
    have cl : cStatics < s1.heap.objs.size := let ⟨_, hns, _⟩ := I1.nolimit; hns.lt
    have sz2 : (s1.heap.push ob).objs.size = s1.heap.objs.size + 1 := Heap.size_push ..
    have kp3 : ∀ b u, b ≠ P → s1.heap.get? b = some u → h3.get? b = some u := fun b u hb e => hx b u hb (Heap.get?_push_of_some _ e)
    refine wpAny_builtinsFor (m := X.mg) (by rw [I1.ok.glob]; exact ((I1.mod.glob.keeps I1.bk).push ob).extBut hx TB.gP) e1 e2 (kp3 _ _ e4 (I1.bk _ _ e5)) e6 e7 e8 ?_
    refine ⟨s1.heap.objs.size, [s1.heap.objs.size], [s1.heap.objs.size], (hi' - lo).toNat, (fun i v => i < (hi' - lo).toNat ∧ ∃ t, v = .int (lo + (i : Nat) * 1) t), _, pz, (fun i y => ∃ u, y = .int (f i) u), rfl, (fun A' hA => (Walks.range hA _ lo 1 _).bound), ?_, ?_, lim2.extBut hx csP, ?_, ?_, ?_⟩
    · show IsRangeIter h3 s1.heap.objs.size (lo + ((0 : Nat) : Int) * 1) (((hi' - lo).toNat : Int) - ((0 : Nat) : Int)) 1
      have z1 : lo + ((0 : Nat) : Int) * 1 = lo := by simp
      have z2 : ((hi' - lo).toNat : Int) - ((0 : Nat) : Int) = ((hi' - lo).toNat : Int) := by simp
      rw [z1, z2]
      exact hx _ _ (Nat.ne_of_gt Plt) hIt
    · intro b hb
      rw [List.mem_singleton.mp hb]
      show s1.heap.objs.size < h3.objs.size
      omega
    · intro z
      exact Nat.ne_of_lt cl (List.mem_singleton.mp z)
    · intro href hh
      have old : ∀ (s2 : Shared), (∀ b ∈ List.range h3.objs.size, b ∉ [s1.heap.objs.size] → ∀ o, href.get? b = some o → s2.heap.get? b = some o) → ∀ b o, b ≠ P → s1.heap.get? b = some o → s2.heap.get? b = some o := fun s2 hk b o hb e => by
        have lt1 := Heap.lt_size e
        refine hk b (List.mem_range.mpr (Heap.lt_size (kp3 b o hb e))) (fun z => ?_) o (hh b o (kp3 b o hb e))
        rw [List.mem_singleton.mp z] at lt1
        exact Nat.lt_irrefl _ lt1
      refine ⟨fun A' E' i v s2 m2 hA hv hns hm2 hk => ?_, fun A' E' i v s2 m2 hA hv hp hns hm2 hk => ?_⟩
      · obtain ⟨hi1, t, rfl⟩ := hv
        exact (hE pins s1 I1 _ A' E' i t s2 m2 hi1 rfl rfl hA hns (by rw [hm2]; simp) (old s2 hk)).1
      · obtain ⟨hi1, t, rfl⟩ := hv
        exact (hE pins s1 I1 _ A' E' i t s2 m2 hi1 rfl rfl hA hns (by rw [hm2]; simp) (old s2 hk)).2 hp
    · intro g h5 tk5 gs bare hlt5 hsz5 hk5 W5 g0
      refine Calls.spliced_nil ?_
      have len0 : (passing pz (hi' - lo).toNat 0) = (List.range (hi' - lo).toNat).filter pz := by
        unfold passing
        rw [List.drop_zero]
      refine call_tuple_gen W5.in4_3 (fun i s9 h9 => h9.1.typeIs) g0 (fun b hb => ?_) List.mem_cons_self (fun s' acc hm' hacc => ?_) ?_
      · show b < h5.objs.size
        have a5 : h5.objs.size = g + 1 := hsz5
        have a6 : h3.objs.size < g := hlt5
        rw [a5]
        rcases List.mem_cons.mp hb with z | z
        · rw [z]
          exact Nat.lt_succ_self g
        · rcases List.mem_cons.mp z with z | z
          · rw [z]
            exact Nat.lt_succ_of_lt a6
          · have z2 : b < h3.objs.size := List.mem_range.mp z
            exact Nat.lt_succ_of_lt (Nat.lt_trans z2 a6)
      · obtain ⟨more, em⟩ := hmore
        have nw : ∀ b u, s1.heap.get? b = some u → b ∉ h3.objs.size :: [s1.heap.objs.size] := fun b u e hb => by
          have hl := Heap.lt_size e
          rcases List.mem_cons.mp hb with z | z
          · rw [z] at hl
            have h9 : (h3.objs.size : Nat) < s1.heap.objs.size := hl
            omega
          · rw [List.mem_singleton.mp z] at hl
            exact Nat.lt_irrefl _ hl
        have J := GxR.inv_tab (more := more) (h' := s'.heap) (g' := s'.gens) (d' := s'.drawn) (t' := s'.toks) I1 hP (fun b u hb e => hm'.heap b u (nw b u e) (hk5 b u (kp3 b u hb e)))
          (by rw [← em]; exact hm'.heap P _ (nw P _ gP) (hk5 P _ gP3)) (AllBare.movedS (I1.bare.push bare) hm')
        rw [GxR.sh_eta s1 s' hm'.os] at J
        have tabbed : GxR.Tabbed P H1 (upd H1 P (.tbl (ps ++ more))) := ⟨⟨ps ++ more, upd_same, by rw [← em]; exact ht3⟩, fun b hb => upd_ne hb⟩
        have sz : (((List.range (hi' - lo).toNat).filter pz).map fun i => V.int (f i)).length ≤ sizeLine := by
          rw [List.length_map]
          exact Nat.le_trans (List.length_filter_le _ _) (by rw [List.length_range]; exact hz)
        have vv : Vals (((List.range (hi' - lo).toNat).filter pz).map fun i => V.int (f i)) acc.toList := by
          refine vals_at _ _ ?_ fun j y hy => ?_
          · rw [Array.length_toList, hacc.1, len0]
          · obtain ⟨i, e9, u, z⟩ := hacc.2 j y (by simpa using hy)
            exact ⟨i, by rw [← len0]; exact e9, u, z⟩
        refine ⟨.ref _, _, J.laid (t' := s'.toks) (o := .tup _) (fun b o' z => Heap.get?_push_of_some _ z) (Nat.le_refl _) ⟨sz, acc.toList, vv, _, Heap.get?_push_size _ rfl, rfl, _, rfl⟩, rfl, q _ _ tabbed (J.hok.fresh (Nat.le_refl _))⟩
      · rw [len0]
        exact Nat.le_trans (List.length_filter_le _ _) (by rw [List.length_range]; exact hz)
  refine ⟨lim2, ?_⟩
  cases hf : codeAmong gpos ps.toList with
  | none =>
    refine wpAny_genexprCodeX hcode (cd.code gP2 ht) (cd.tab gP2) hf fun c' h' tk hx hge hlt hco' _ htab' _ => ?_
    obtain ⟨_, _, _, _, _, _, _, _, _, _, _, _, _, _, _, _, _, _, _, htr, _⟩ := hco'
    exact main _ h' tk _ hx (Nat.le_trans hge (Nat.le_of_lt hlt)) htab'.2 ⟨_, rfl⟩ htr
  | some cv =>
    refine wpAny_genexprCode_hit hcode (cd.code gP2 ht) hf ?_
    exact main cv (s1.heap.push ob) s1.toks ps (Heap.ExtBut.refl _ _) (Nat.le_refl _) gP2 ⟨#[], by simp⟩ ht
end
/-! ### the end of a law whose defs hold generator expressions: the tables of their code objects are tracked -/
def LawDoesT (P : Program) (w : World) (K : PySem.W.Frag) (mg : Str → Option Value) (base : Heap) (st : Stmt) (N : List Str) (f : Addr) (cs : List (Addr × Addr)) : Prop :=
  ∀ (cdv : Value) (s : Shared) (H : Hp) (a : Addr) (ns : List Int), ns.length ≤ 63 → (∀ p ∈ cs, H p.2 = some (.tbl #[])) → SqL K H a (ns.map V.int) →
    ∃ t, PSs (cxOf CX0 P w K mg base N "law" (defScope st) f cdv callerA [] s H E0).nox (defBody st) t ∧
      t { nx := fun _ _ => False, rt := fun v _ => v = .bl true } (start N [.ref a]) H
theorem law_atT {P : Program} {w : World} {K : PySem.W.Frag} {mg : Str → Option Value} {base : Heap} {st : Stmt} {N : List Str} {f a : Addr} {fd : FuncData} {s : Shared} {H : Hp} {ns : List Int} {x : Str} {cs : List (Addr × Addr)}
    (F : Fun K "law" "law" st f fd) (S : FnScope N [x] (defScope st)) (hr : Room 60 callerA) (D : LawDoesT P w K mg base st N f cs) (hT : ∀ p ∈ cs, H p.2 = some (.tbl #[]))
    (e0 : Env0 P w K mg base callerA [] s H) (hb : BindsTo s fd ⟨[.ref a], []⟩ [(x, .ref a)]) (hl : ns.length ≤ 63) (hS : SqL K H a (ns.map V.int)) :
    codeAny (model P w) callerA (.call (.ref f) ⟨[.ref a], []⟩) (CR CX0 [] P w H s (fun v _ => v = .bl true) E0) s := by
  obtain ⟨oc, od, kV, doc, pm, an, cdv, ct, osl, rfl, lk, hcd⟩ := F.ex
  have heap0 : K.In s.heap := e0.mod.kin.keeps fun b o e => (e0.bs b o e).1
  have lim0 := e0.mod.nolimit.keeps fun b o e => (e0.bs b o e).1
  have vals : Vals [V.ref a] [Value.ref a] := .cons rfl .nil
  refine codeAny_call_function hr.depth (heap0 _ _ lk) rfl S.co S.gen rfl (PySem.W.codeRec_of heap0 hcd) (hb _ _ _ _ ?_)
  refine wpAny_newFunctionEnv_cells S.kind (fun y hy => ?_) fun env he s1 ic => ?_
  · have ey : y = (x, Value.ref a) := List.mem_singleton.mp hy
    rw [ey]
    rcases S.par x (List.mem_singleton.mpr rfl) with q | q
    · exact Or.inl q
    · exact Or.inr ⟨q, PySem.W.cellsFrom_some _ _ _ (Or.inl q)⟩
  · subst he
    refine ⟨lim0.keeps ic.toInCall.keep, codeAny_func ?_⟩
    obtain ⟨t, pt, q⟩ := D cdv s H a ns hl hT hS
    have I := inv_start (CX := CX0) (E := E0) (cd := cdv) (f := f) (qual := "law") S hr.hd e0 rfl vals ic
    refine wpAny_mono (pt.nox.run [] s1 _ H _ I q) ?_ ?_
    · intro fl s2 h
      cases fl with
      | ret u =>
        obtain ⟨v, _, H2, J, rv, e⟩ := h
        exact ⟨v, H2, J.os, J.bare, J.base, J.hok, rv, e⟩
      | next => exact (let ⟨_, _, _, z⟩ := h; False.elim z)
      | brk => exact (let ⟨_, _, _, z⟩ := h; False.elim z)
      | cont => exact (let ⟨_, _, _, z⟩ := h; False.elim z)
    · exact fun _ _ z => z
/-- the tables, or the script -/
def tabsAt (cs : List (Addr × Addr)) (G : Hp) : Hp := fun b => if b ∈ cs.map (·.2) then some (.tbl #[]) else G b
/-- what is known of a def's code at the head's heap -/
def CodeKnown (mg : Str → Option Value) (h : Heap) (nm : Str) : Prop :=
  ∃ (a : Addr) (o : Obj) (fd : FuncData) (c P : Addr), mg nm = some (.ref a) ∧ h.get? a = some o ∧ o.data = .func fd ∧ fd.code = .ref c ∧ h.IsCode c P #[] ∧ h.TableAt c P #[]
theorem law_walkT {l : PySem.W.OpenLaw} {q : Program} {loose : List Str} {XP : (Str → Option Value) → Heap → Prop} {YP : World → Heap → Prop} {d : DefRec} {K : Params → PySem.W.Frag} {x : Str} {st : Stmt} {N : List Str} {nms : List Str}
    (hn : l.most = some 63) (hdf : d.params.defaults = []) (S : FnScope N [x] (defScope st)) (hY : ∀ (w : World) (h : Heap), YP w h → (K w.params).In h) (hrec : ∀ nm ∈ nms, ((recsOf q).any fun e => e.name == nm) = true)
    (Fm : ∀ (w : World) (mg : Str → Option Value) (fa : Addr) (h : Heap), (K w.params).In h → h.Ns mainGlobals mg → mg d.name = some (.ref fa) → (∀ nm ∈ nms, CodeKnown mg h nm) →
      ∃ (fd : FuncData) (cs : List (Addr × Addr)), Fun (K w.params) "law" "law" st fa fd ∧ (∀ (s : Shared) (u : Value), BindsTo s fd ⟨[u], []⟩ [(x, u)]) ∧
        (∀ p ∈ cs, h.get? p.2 = some { cls := .none, data := .fields #[] } ∧ (K w.params).lookup p.2 = none ∧ PySem.W.CodeHd h p.1 p.2 ∧ h.IsCode p.1 p.2 #[] ∧ h.TableAt p.1 p.2 #[]) ∧
        ∀ base : Heap, (K w.params).In base → (∀ p ∈ cs, GxR.TabB base mg p.1 p.2) → LawDoesT l.prog w (K w.params) mg base st N fa cs) :
    PySem.W.WalkO q loose XP YP l.row.toRowW d [] (fun f vs => PySem.call f vs) := by
  refine Att.attach_call hn hdf fun w s₀ s1 mg mb fa o pm cd doc a vs ns G Y ho hd hcd hmg hobj hints hlen hgen => ?_
  have hK := hY w _ Y
  have known : ∀ nm ∈ nms, CodeKnown mg s1.heap nm := fun nm hm => by
    obtain ⟨e, he, en⟩ := List.any_eq_true.mp (hrec nm hm)
    have en' : e.name = nm := beq_iff_eq.mp en
    rw [← en']
    exact G.T.tab e he
  obtain ⟨fd, cs, F, hbind, hcs, D⟩ := Fm w mg fa _ hK G.T.g hmg known
  have rv := vals_ints hints
  let u : HO := .frz { cls := .type "list", data := .seq vs.toArray } (.lst (ns.map V.int))
  let free : Bool := ((K w.params).lookup a).isNone
  let H : Hp := tabsAt cs (onlyAt a u free)
  have isT : ∀ b, b ∈ cs.map (·.2) → s1.heap.get? b = some { cls := .none, data := .fields #[] } ∧ (K w.params).lookup b = none := fun b hb => by
    obtain ⟨p, hp, e⟩ := List.mem_map.mp hb
    rw [← e]
    exact ⟨(hcs p hp).1, (hcs p hp).2.1⟩
  have aT : a ∉ cs.map (·.2) := fun z => by
    have e := (isT a z).1
    rw [hobj] at e
    cases e
  have cases3 : ∀ b, H b = none ∨ (b ∈ cs.map (·.2) ∧ H b = some (.tbl #[])) ∨ (b = a ∧ free = true ∧ H b = some u) := fun b => by
    by_cases hb : b ∈ cs.map (·.2)
    · exact Or.inr (Or.inl ⟨hb, if_pos hb⟩)
    · rcases onlyAt_cases a u free b with n | ⟨e, fr, y⟩
      · exact Or.inl ((if_neg hb).trans n)
      · exact Or.inr (Or.inr ⟨e, fr, (if_neg hb).trans y⟩)
  have lenV : vs.length = ns.length := hints.length
  have small : ns.length ≤ sizeLine := Nat.le_trans hlen (by decide)
  have hS : SqL (K w.params) H a (ns.map V.int) := by
    cases e : (K w.params).lookup a with
    | none =>
      refine Or.inl (Or.inr ⟨{ cls := .type "list", data := .seq vs.toArray }, ?_⟩)
      show tabsAt cs (onlyAt a u free) a = some u
      unfold tabsAt
      rw [if_neg aT]
      exact if_pos ⟨rfl, by show ((K w.params).lookup a).isNone = true; rw [e]; rfl⟩
    | some ob =>
      have e1 := (hK a ob e).symm.trans hobj
      cases Option.some.inj e1
      exact Or.inr ⟨_, vs.toArray, _, e, rfl, rfl, rfl, by rw [List.size_toArray, lenV]; exact small, by rw [List.toList_toArray]; exact rv⟩
  have hHok : HOk l.prog w H s1.heap := fun b z e => by
    rcases cases3 b with n | ⟨hb, y⟩ | ⟨rfl, _, y⟩
    · cases n.symm.trans e
    · cases y.symm.trans e
      exact (isT b hb).1
    · cases y.symm.trans e
      exact ⟨hobj, by rw [List.length_map]; exact small, vs, _, rv, hobj⟩
  have isN : ∀ {b : Addr} {ob : Obj}, s1.heap.get? b = some ob → (∀ its n, ob.data ≠ .seq its n) → ob.data ≠ .fields #[] → H b = none := fun {b ob} e nd nf => by
    rcases cases3 b with n | ⟨hb, _⟩ | ⟨rfl, _, _⟩
    · exact n
    · cases (isT b hb).1.symm.trans e
      exact absurd rfl nf
    · cases hobj.symm.trans e
      exact absurd rfl (nd _ _)
  have nsK : ∀ {b : Addr} {m : Str → Option Value}, s1.heap.Ns b m → (hidT s1.heap H).Ns b m := by
    rintro b m ⟨ob, es, ep, e, dt, r⟩
    exact ⟨ob, es, ep, hidT_get e (isN e (fun its n z => nomatch dt.symm.trans z) fun z => nomatch dt.symm.trans z), dt, r⟩
  have inB : (K w.params).In (hidT s1.heap H) := fun b ob e => hidT_get (hK b ob e) (by
    rcases cases3 b with n | ⟨hb, _⟩ | ⟨rfl, fr, _⟩
    · exact n
    · rw [(isT b hb).2] at e
      cases e
    · have fr' : ((K w.params).lookup b).isNone = true := fr
      rw [e] at fr'
      cases fr')
  have hM : Mod (K w.params) mg (hidT s1.heap H) := ⟨inB, nsK G.T.g, ⟨mb, nsK G.T.b, G.T.builtins⟩, let ⟨mc, h1, h2⟩ := G.T.nolimit; ⟨mc, nsK h1, h2⟩⟩
  have TB : ∀ p ∈ cs, GxR.TabB (hidT s1.heap H) mg p.1 p.2 := fun p hp => by
    obtain ⟨t1, t2, t3, _⟩ := hcs p hp
    refine ⟨?_, ?_, fun z => ?_⟩
    · obtain ⟨ob, us, file, tf, flags, tg, inF, text, tt, e1, r1, r2, r3, r⟩ := t3
      refine ⟨ob, us, file, tf, flags, tg, inF, text, tt, hidT_get e1 (isN e1 (fun its n z => ?_) fun z => ?_), r1, r2, r3, r⟩
      · rw [r2] at z
        cases z
      · rw [r2] at z
        cases z
        simp at r3
    · obtain ⟨bm, ob, b1, b2, b3, b4, b5, b6⟩ := G.T.bmain
      have nG : bm ≠ mainGlobals := fun z => by
        obtain ⟨o', es, ep, e, hd', _⟩ := G.T.g
        rw [z, e] at b3
        cases b3
        rw [hd'] at b6
        cases b6
      have nP : bm ≠ p.2 := fun z => by
        rw [z, t1] at b3
        cases b3
        cases b6
      refine ⟨bm, ob, b1, b2, nG, nP, hidT_get b3 (isN b3 (fun its n z => ?_) fun z => ?_), b4, b5, b6⟩
      · rw [b6] at z
        cases z
      · rw [b6] at z
        cases z
    · obtain ⟨o', es, ep, e, hd', _⟩ := G.T.g
      rw [z, t1] at e
      cases e
      cases hd'
  have e0 : Env0 l.prog w (K w.params) mg (hidT s1.heap H) callerA [] s1 H :=
    { frames := rfl, mod := hM, bs := fun b ob e => of_hidT e, bsz := Nat.le_of_eq (hidT_size _ _), funs := True.intro, frf := fun b hb => (List.not_mem_nil hb).elim, hok := hHok, bare := .of_eq hgen }
  have hT : ∀ p ∈ cs, H p.2 = some (.tbl #[]) := fun p hp => if_pos (List.mem_map.mpr ⟨p, hp, rfl⟩)
  refine codeAny_mono (law_atT F S ⟨rfl, by decide, by decide⟩ (D _ inB TB) hT e0 (hbind s1 (.ref a)) hlen hS) fun r s2 h => ?_
  cases r with
  | error e => exact False.elim h
  | ok fl =>
    cases fl with
    | next => exact False.elim h
    | brk => exact False.elim h
    | cont => exact False.elim h
    | ret v0 =>
      obtain ⟨v, H2, os, bare, un, hok2, r2, ev⟩ := h
      have ev' : v = .bl true := ev
      rw [ev'] at r2
      have e3 : v0 = Value.bool true := r2
      rw [e3]
      have key : ∀ b ob, b ∉ cs.map (·.2) → s1.heap.get? b = some ob → s2.heap.get? b = some ob := fun b ob nb e => by
        rcases cases3 b with n | ⟨hb, _⟩ | ⟨rfl, _, y⟩
        · exact un.keep b ob e n List.not_mem_nil List.not_mem_nil
        · exact absurd hb nb
        · have k2 := hok2 b _ (un.frzs b _ _ y)
          cases hobj.symm.trans e
          exact k2.1
      have grown : ∀ p ∈ cs, ∃ more : Array Value, s2.heap.get? p.2 = some { cls := .none, data := .fields more } := fun p hp => by
        obtain ⟨more, z⟩ := un.tbls p.2 #[] (hT p hp)
        exact ⟨_, hok2 p.2 _ z⟩
      refine ⟨rfl, ⟨fun b ob e => ?_, fun b ob e => ?_⟩, os, bare⟩
      · by_cases hb : b ∈ cs.map (·.2)
        · obtain ⟨p, hp, ep⟩ := List.mem_map.mp hb
          obtain ⟨more, hm⟩ := grown p hp
          rw [← ep] at e ⊢
          obtain ⟨t1, _, t3, _⟩ := hcs p hp
          rw [t1] at e
          cases e
          exact Or.inr (Or.inl ⟨(t3.tab t1).isCodeTable, rfl, #[], more, rfl, by rw [Array.empty_append]; exact hm⟩)
        · exact Or.inl (key b ob hb e)
      · by_cases hb : b ∈ cs.map (·.2)
        · obtain ⟨p, hp, ep⟩ := List.mem_map.mp hb
          obtain ⟨more, hm⟩ := grown p hp
          rw [← ep]
          exact ⟨_, hm⟩
        · exact ⟨ob, key b ob hb e⟩
/-! ### expressions inside a generator expression's own frame, whatever has come since the state s -/
theorem keepsT {a b c : Shared} (x : PySem.Keeps a b) (y : PySem.Keeps b c) : PySem.Keeps a c := by
  obtain ⟨h, t, rfl, k⟩ := x
  obtain ⟨h2, t2, rfl, k2⟩ := y
  exact ⟨h2, t2, rfl, fun b o e => k2 b o (k b o e)⟩
theorem keepsK {a b : Shared} (x : PySem.Keeps a b) (t : Nat) : PySem.Keeps a { b with toks := t } := keepsT x (GxR.keeps_tok b t)
theorem keepsH {a b : Shared} (x : PySem.Keeps a b) : ∀ c o, a.heap.get? c = some o → b.heap.get? c = some o := by
  obtain ⟨h, t, rfl, k⟩ := x
  exact k
def GV (P : Program) (w : World) (A : Around) (env : Env) (s : Shared) (e : Expr) (R : Value → Prop) : Prop :=
  ∀ (E : Value → Shared → Prop) (s1 : Shared), PySem.Keeps s s1 → wpAny (model P w) A (eval e env) (fun y s2 => R y ∧ PySem.Keeps s s2) E s1
abbrev IsI (i : Int) : Value → Prop := fun y => ∃ t, y = .int i t
section
variable {P : Program} {w : World} {A : Around} {env : Env} {s : Shared} {a b : Expr} {pos p : Pos} {x : Str}
theorem gv_loc {m : Str → Option Value} {v : Value} {R : Value → Prop} (hk : env.scope.kind = .function) (hl : env.scope.names.lookup x = some .local) (hn : s.heap.Ns env.locals m) (hv : m x = some v) (r : R v) (hd : (x == ("__debug__" : Str)) = false := by decide) :
    GV P w A env s (.Name x p) R := fun E s1 k =>
  wpAny_Name (wpAny_loadName_local hk (show env.scope.names.lookup x = some .local from hl) (hn.keeps (keepsH k)) hv ⟨r, k⟩) hd
theorem gv_free {c : Addr} {v : Value} {R : Value → Prop} (hk : env.scope.kind = .function) (hl : env.scope.names.lookup x = some .free) (hc : env.cells.lookup x = some c) (hv : s.heap.IsCell c (some v)) (r : R v) (hd : (x == ("__debug__" : Str)) = false := by decide)
    (hcd : (x == ("__classdict__" : Str)) = false := by decide) : GV P w A env s (.Name x p) R := fun E s1 k =>
  wpAny_Name (wpAny_loadName_free hk (show env.scope.names.lookup x = some .free from hl) hc (let ⟨o, ho, hd⟩ := hv; ⟨o, keepsH k _ _ ho, hd⟩) ⟨r, k⟩ hcd) hd
theorem gv_int {i : Int} {j : Nat} : GV P w A env s (.Constant (.int i) j pos) (IsI i) := fun E s1 k => wpAny_Constant_int ⟨⟨_, rfl⟩, keepsK k _⟩
theorem gv_sub {i j : Int} (ha : GV P w A env s a (IsI i)) (hb : GV P w A env s b (IsI j)) : GV P w A env s (.BinOp a .Sub b pos) (IsI (i - j)) := fun E s1 k => by
  refine wpAny_BinOp (wpAny_mono (ha E s1 k) (fun y s2 ⟨⟨t, e⟩, k2⟩ => wpAny_mono (hb E s2 k2) (fun z s3 ⟨⟨u, e'⟩, k3⟩ => ?_) fun _ _ h => h) fun _ _ h => h)
  subst e
  subst e'
  exact sub_int ⟨⟨_, rfl⟩, keepsK k3 _⟩
theorem gv_add {i j : Int} (ha : GV P w A env s a (IsI i)) (hb : GV P w A env s b (IsI j)) : GV P w A env s (.BinOp a .Add b pos) (IsI (i + j)) := fun E s1 k => by
  refine wpAny_BinOp (wpAny_mono (ha E s1 k) (fun y s2 ⟨⟨t, e⟩, k2⟩ => wpAny_mono (hb E s2 k2) (fun z s3 ⟨⟨u, e'⟩, k3⟩ => ?_) fun _ _ h => h) fun _ _ h => h)
  subst e
  subst e'
  exact add_int ⟨⟨_, rfl⟩, keepsK k3 _⟩
/-- the item of a tuple -/
theorem gv_ix {t : Addr} {xs : List V} {its : List Value} {i : Int} {v : V} {R : Value → Prop} (ha : GV P w A env s a (· = .ref t)) (hb : GV P w A env s b (IsI i)) (ht : IsTup s.heap t its.toArray) (r : Vals xs its) (hz : xs.length ≤ sizeLine)
    (he : atI xs i = some v) (hr : ∀ u, RelV v u → R u) (hs : PlainIx b) : GV P w A env s (.Subscript a b pos) R := fun E s1 k => by
  refine Subscript_ (wpAny_mono (ha E s1 k) (fun y s2 ⟨e, k2⟩ => wpAny_mono (hb E s2 k2) (fun z s3 ⟨⟨u, e'⟩, k3⟩ => ?_) fun _ _ h => h) fun _ _ h => h)
  subst e
  subst e'
  obtain ⟨j, h1, h2, h3, h4, h5⟩ := atI_get he
  obtain ⟨w', ew, rw'⟩ := r.get h2
  have hl := r.length
  have hn := line63
  have ht3 := ht.keeps (keepsH k3)
  exact subscriptTail_builtinR (x := w') ht3.typeIs slot_tuple_getitem.lookup
    (getItem_tuple (j := j) (Q := fun r' s' => r' = w' ∧ (R r' ∧ PySem.Keeps s s')) ht3 (by omega) (by omega) (by rw [List.size_toArray, ← hl]; exact h1) (by simpa using ew) ⟨rfl, hr _ rw', k3⟩) (hs _ _)
/-- no test -/
theorem gt_nil {i : Bool} (hi : i = true) : ∀ E : Value → Shared → Prop, wpAny (model P w) A (forIn ([] : List Expr) true fun c r => if r = true then do let ok ← isTrue c env (eval c env); pure (ForInStep.yield ok) else pure (ForInStep.yield r)) (fun ok s3 => ok = i ∧ PySem.Keeps s s3) E s := fun E => by
  subst hi
  exact wpAny_pure ⟨rfl, GxR.keeps_refl _⟩
/-- one test: a != b -/
theorem gt_ne {i j : Int} (ha : GV P w A env s a (IsI i)) (hb : GV P w A env s b (IsI j)) (hm : behindInMarks .NotEq b = false := by with_unfolding_all rfl) : ∀ E : Value → Shared → Prop, wpAny (model P w) A (forIn [Expr.Compare a [.NotEq] [b] pos] true fun c r => if r = true then do let ok ← isTrue c env (eval c env); pure (ForInStep.yield ok) else pure (ForInStep.yield r)) (fun ok s3 => ok = (i != j) ∧ PySem.Keeps s s3) E s := fun E => by
  rw [List.forIn_cons]
  simp only [if_true, List.forIn_nil]
  refine wpAny_bind (wpAny_bind (wpAny_isTrue_Compare1 (wpAny_mono (ha E s (GxR.keeps_refl _)) (fun y s2 ⟨⟨t, e⟩, k2⟩ => wpAny_mono (hb E s2 k2) (fun z s3 ⟨⟨u, e'⟩, k3⟩ => ?_) fun _ _ h => h) fun _ _ h => h) hm))
  subst e
  subst e'
  exact ne_int (wpAny_truthy_bool (wpAny_pure (wpAny_pure ⟨rfl, k3⟩)))
end
/-- a captured name, where the generator expression starts -/
theorem Inv.freeAt {X : Cx} {pins : List (Addr × Obj)} {σ : L2.St} {H : Hp} {s : Shared} {i : Nat} {x : Str} {v : V} (I : Inv X pins σ H s) (hN : X.N[i]? = some x) (e : σ[i]? = some (some v)) (hc : X.env.scope.names.lookup x = some .cell) :
    ∃ u c, RelV v u ∧ X.env.cells.lookup x = some c ∧ s.heap.IsCell c (some u) := by
  obtain ⟨m, hn, hl⟩ := I.loc
  obtain ⟨u, r, l⟩ := hl i x v hN e (Or.inr (Or.inl hc))
  rcases l with ⟨hk, _⟩ | ⟨_, c, hc', hcell⟩
  · have hk' : X.env.scope.names.lookup x = some .local := hk
    rw [hc] at hk'
    cases hk'
  · exact ⟨u, c, r, hc', hcell⟩
theorem clo_at {cells : List (Str × Addr)} {x : Str} {c : Addr} (hc : cells.lookup x = some c) : ∀ (names : List (Str × NameKind)) (acc : List (Str × Addr)), ((x, NameKind.free) ∈ names ∨ acc.lookup x = some c) → (cloFrom cells names acc).lookup x = some c
  | [], _, h => h.elim (fun z => absurd z List.not_mem_nil) id
  | (n, k) :: r, acc, h => by
    unfold cloFrom
    by_cases hk : k = .free
    · rw [if_pos (by rw [hk]; rfl)]
      refine clo_at hc r _ ?_
      by_cases nx : x = n
      · subst nx
        refine Or.inr ?_
        rw [List.lookup_cons, hc]
        simp
      · rcases h with h | h
        · rcases List.mem_cons.mp h with z | z
          · exact absurd (congrArg Prod.fst z) nx
          · exact Or.inl z
        · refine Or.inr ?_
          rw [List.lookup_cons]
          have : (x == n) = false := beq_eq_false_iff_ne.mpr nx
          rw [this]
          exact h
    · rw [if_neg (by simpa using hk)]
      refine clo_at hc r acc ?_
      rcases h with h | h
      · rcases List.mem_cons.mp h with z | z
        · exact absurd (congrArg Prod.snd z).symm hk
        · exact Or.inl z
      · exact Or.inr h
theorem gen_free {sc sc' : Scope} {n : Nat} (h : (sc'.names.all fun y => y.2 != NameKind.free || sc.names.lookup y.1 == some NameKind.cell) = true) : ∀ y ∈ sc'.names, y.2 = .free → ∃ c, (cellsFrom n sc.names []).lookup y.1 = some c := fun y hy hf => by
  have q := List.all_eq_true.mp h y hy
  rw [hf] at q
  refine cell_has ?_
  simpa using q
/-- a def whose code object is known -/
theorem Fun.okC {P : Program} {w : World} {K : PySem.W.Frag} {mg : Str → Option Value} {base : Heap} {x qual : Str} {st : Stmt} {f c : Addr} {fd : FuncData} {N ps : List Str} {k : Nat} {sp : Sp} (F : Fun K x qual st f fd) (hc : fd.code = .ref c) (S : FnScope N ps (defScope st)) (len : ∀ vs H Q E, sp vs H Q E → vs.length = ps.length)
    (hbody : ∀ (A : Around) (outer : List Env) (s : Shared) (H : Hp) (vs : List V) (Q : VK) (E : XK), Room k (A.deeper (envOfC qual (defScope st) s.heap.objs.size f (.ref c))) → sp vs H Q E →
      ∃ t, PSs (cxOf CX0 P w K mg base N qual (defScope st) f (.ref c) A outer s H E).nox (defBody st) t ∧ t { nx := fun _ H' => Q .non H', rt := Q } (start N vs) H) : FnOk P w K mg base CX0 (k + 1) f fd ps sp := by
  obtain ⟨oc, od, kV, doc, pm, an, cdv, ct, osl, rfl, lk, hcd⟩ := F.ex
  have hc' : cdv = .ref c := hc
  subst hc'
  refine fn_of lk hcd S len fun A outer s H vs Q E hr hsp => ?_
  obtain ⟨t, h, q⟩ := hbody A outer s H vs Q E hr hsp
  exact ⟨t, h.nox, q⟩
/-! ### the tables of the text's code objects -/
def TabField (o : Obj) (P : Addr) : Prop := ∃ vs, o.data = .fields vs ∧ vs[11]? = some (.ref P)
theorem tab_mk {K : PySem.W.Frag} {h : Heap} {mg : Str → Option Value} {nm : Str} {f c P : Addr} {o oc : Obj} {fd : FuncData} (X : K.In h) (hm : mg nm = some (.ref f)) (l : K.lookup f = some o) (hd : o.data = .func fd) (hc : fd.code = .ref c)
    (kk : K.lookup c = some oc) (vv : TabField oc P) (nn : K.lookup P = none) (ck : CodeKnown mg h nm) :
    h.get? P = some { cls := .none, data := .fields #[] } ∧ K.lookup P = none ∧ PySem.W.CodeHd h c P ∧ h.IsCode c P #[] ∧ h.TableAt c P #[] := by
  obtain ⟨a, o', fd', c', P', m1, m2, m3, m4, m5, m6⟩ := ck
  rw [hm] at m1
  cases m1
  rw [X _ _ l] at m2
  cases m2
  rw [hd] at m3
  cases m3
  rw [hc] at m4
  cases m4
  obtain ⟨vs, v1, v2⟩ := vv
  have e : P' = P := by
    obtain ⟨⟨o2, vs2, t1, _, t3, t4⟩, _⟩ := m6
    rw [X _ _ kk] at t1
    cases t1
    rw [v1] at t3
    cases t3
    rw [v2] at t4
    cases t4
    rfl
  subst e
  exact ⟨m6.2, nn, PySem.W.CodeHd.of m5 m6, m5, m6⟩
/-! ### lists or tuples; zip of tuples -/
section
variable {X : Cx}
theorem ixSK (K : PySem.W.Frag) (h : X.K = K) : IxR X (rIx K) := h ▸ ix_seq
end
def SqA (K : PySem.W.Frag) (H : Hp) (a : Addr) (xs : List V) : Prop := SqL K H a xs ∨ SqT K H a xs
theorem SqA.same {K : PySem.W.Frag} {H J : Hp} {a : Addr} {xs : List V} (s : Same H J) (h : SqA K H a xs) : SqA K J a xs := h.elim (fun z => .inl (s.seq z)) fun z => .inr (sameT s z)
theorem walk_zipT {K : PySem.W.Frag} {a b : Addr} {xs ys : List V} {n : Nat} (hn : n = min xs.length ys.length) : Walk (RZ.ItzT K a b) n (fun H => SqT K H a xs ∧ SqT K H b ys) (YPair (fun i => xs[i]?) (fun i => ys[i]?)) := by
  refine ⟨fun i H hi q => ⟨xs, ys, xs[i], ys[i], q.1, q.2, List.getElem?_eq_getElem (by omega), List.getElem?_eq_getElem (by omega)⟩, fun H q => ⟨xs, ys, q.1, q.2, by omega⟩, fun i H v H' hi q y => ?_⟩
  obtain ⟨T, x, y', e, hT, eH, f, g⟩ := y
  exact ⟨T, x, y', e, hT, eH, f _ q.1, g _ q.2⟩
/-- two names, in a comprehension -/
theorem pg_pairK (K : PySem.W.Frag) {X : Cx} {i j k : Nat} {x y : Str} {p q pos : Pos} (hK : X.K = K) (hc : X.calm = true) (hN : X.N.Nodup) (hi : X.N[i]? = some x) (hx : Loc X.env.scope x) (hj : X.N[j]? = some y) (hy : Loc X.env.scope y)
    (hf : X.fn x = true ∨ X.env.scope.names.lookup x = some .local := by first | exact .inl rfl | exact .inr rfl) (hf' : X.fn y = true ∨ X.env.scope.names.lookup y = some .local := by first | exact .inl rfl | exact .inr rfl) :
    PG X (.Tuple [.Name x p, .Name y q] k pos) (gTup K 2 (gCons (gName i) (gCons (gName j) gNil))) := by
  subst hK
  exact pg_tup hc (pgs_cons (pg_name hN hi hx hf) (pgs_cons (pg_name hN hj hy hf') pgs_nil))
/-! ### (x,) * k, long -/
def rRepOne (K : PySem.W.Frag) : R2 := fun x y H Q => ∃ (l : Addr) (k : Int) (v : V), x = .ref l ∧ y = .int k ∧ SqT K H l [v] ∧ 2 ≤ k ∧ k ≤ 9000 ∧ ∀ p, H p = none → Q (.ref p) (upd H p (.tup (List.replicate k.toNat v)))
theorem one_rep (u : Value) (m : Nat) : (List.foldl (fun a b => a ++ b) #[] (List.replicate m #[u])) = (List.replicate m u).toArray := by
  have e := size_rep [u] m
  rw [List.flatten_replicate_singleton] at e
  exact e
theorem op_repOne {X : Cx} : OpR X (binaryOp .Mult) (rRepOne X.K) := by
  rintro pins s σ H _ _ _ _ Q I rx ry ⟨l, k, v, rfl, rfl, hT, lo, hi, q⟩
  cases rx
  obtain ⟨tk, rfl⟩ := ry
  obtain ⟨its, r, ⟨⟨cl, dd, dat, sl⟩, ho, rfl, n, rfl⟩, _⟩ := I.tuple hT
  cases r with
  | cons ru rn =>
  rename_i u us
  cases rn
  have fits : (List.replicate k.toNat u).toArray.size ≤ sizeLine := by
    rw [List.size_toArray, List.length_replicate]
    exact Nat.le_trans (by omega : k.toNat ≤ 9000) (by decide)
  have sz1 : (([u].toArray.size : Nat) : Int) * k = k := Int.one_mul k
  have far : (decide (k < -(2 ^ 63)) || decide (k ≥ 2 ^ 63)) = false := by
    rw [Bool.or_eq_false_iff]
    exact ⟨decide_eq_false (by omega), decide_eq_false (by omega)⟩
  have few : Builtin.Tuple.tupleTooMany (([u].toArray.size : Nat) * k) = false := by
    rw [sz1]
    show decide _ = false
    refine decide_eq_false ?_
    have := sizeLine_eq
    omega
  have many : (([u].toArray.isEmpty || k == 1) = false) ∧ ((decide (k ≤ 0) || [u].toArray.isEmpty) = false) := by
    refine ⟨?_, ?_⟩
    · show (false || k == 1) = false
      rw [Bool.false_or]
      exact beq_eq_false_iff_ne.mpr (by omega)
    · show (decide (k ≤ 0) || false) = false
      rw [Bool.or_false]
      exact decide_eq_false (by omega)
  have W := tuple_mulW l [u].toArray n dd sl k tk far many.1 many.2 (by rw [sz1]; omega) few (by rw [show [u].toArray = #[u] from rfl, one_rep]; exact fits)
  have isT : s.TypeIs (.ref l) "tuple" := ⟨_, ho, rfl⟩
  refine wpAny_binaryOp_repeat_ref (T := "tuple") (U := "int") (by decide) isT (fun z => typeIs_int z k tk) noFill_tuple_mul F.fills_int_mul F.slot_int_rmul repeat_tuple F.slot_int_index.lookup ?_
  refine call_meets F.slot_int_rmul (typeIs_int s k tk) F.entry_int_rmul (F.args_int_rmul_2 _ _) (int_rmul_tuple k tk l [u].toArray n dd sl) ⟨ho, rfl, isT, ?_⟩
  refine call_meets F.slot_tuple_mul isT F.entry_tuple_mul (F.args_tuple_mul_2 _ _) W ⟨ho, ?_⟩
  rw [show [u].toArray = #[u] from rfl, one_rep]
  have vals : Vals (List.replicate k.toNat v) (List.replicate k.toNat u) := by
    generalize k.toNat = m
    induction m with
    | zero => exact .nil
    | succ m ih => exact .cons ru ih
  refine ⟨.ref s.heap.objs.size, _, I.laid (t' := s.toks) (o := .tup (List.replicate k.toNat v)) (fun b o e => Heap.get?_push_of_some _ e) (Nat.le_refl _) ⟨?_, _, vals, _, Heap.get?_push_size _ rfl, rfl, _, rfl⟩, rfl, q _ (I.hok.fresh (Nat.le_refl _))⟩
  rw [List.length_replicate]
  exact Nat.le_trans (by omega : k.toNat ≤ 9000) (by decide)
theorem nil_tup (ds : List PyData) : PyData.eqv (.tuple ds) (.tuple []) = ds.isEmpty := by
  cases ds <;> simp [PyData.eqv, PyData.eqvAll]
/-! ### set(list of numbers), as a set that can be sorted; sorted(set(..)) -/
/-- the new, empty set -/
abbrev noneYet (w : World) : Obj := { cls := .type "set", dict := none, data := .set #[] 0 (.fresh 0 0 (!w.params.followText "set-order")) }
section
variable {P : Program} {w : World} {A : Around} {E : Value → Shared → Prop} {s : Shared}
theorem set_of_list {src : Addr} {vals : Array Value} (ns : List Int) {Q : Value → Shared → Prop} (calm : A.handled = none) (isL : s.heap.IsList src vals) (nums : IntsAre vals.toList ns) (few : ns.length + 1 < scanBound)
    (fin : ∀ (g : Heap) (tk m : Nat), SetR w g s.heap.objs.size (fun j => decide (j ∈ ns)) m → m ≤ ns.length → (∀ b o, s.heap.get? b = some o → g.get? b = some o) → Q (.ref s.heap.objs.size) { s with heap := g, toks := tk }) :
    wpAny (model P w) A (call (.type "set") [.ref src]) Q E s := by
  have many : vals.size = ns.length := (Array.length_toList (xs := vals)).symm.trans nums.length
  obtain ⟨cc, cl, ho⟩ := F.called_set.mro
  have ⟨m1, m2, m3, m4⟩ := And.intro F.called_set.made (And.intro F.called_set.sub (And.intro F.called_set.notType F.called_set.canCreate))
  have m5 := F.typeCall_set_1 (Value.ref src)
  refine wpAny_call (codeAny_of_tree (show wpAny _ _ (callAny (.type "set") _) _ _ _ from ?_))
  refine wpAny_pure (And.intro (Code.quiet_builtin _ (by decide +kernel)) (codeAny_builtin F.entry_type_call ?_))
  rw [Around.under_plain (weight_type_call_type "set" [Value.ref src] []) rfl]
  repeat (any_goals (first | assumption | wp_step))
  refine codeAny_mono (code_set_led1 (Value.ref src) (E := E) (Q₁ := fun u t => u = .ref s.heap.objs.size ∧ t = { s with heap := s.heap.push (noneYet w) }) (And.intro rfl rfl)) fun r1 t1 z1 => ?_
  cases r1 with
  | error _ => exact z1
  | ok f1 =>
  cases f1 with
  | next => exact z1.elim
  | brk => exact z1.elim
  | cont => exact z1.elim
  | ret u =>
  obtain ⟨rfl, rfl⟩ := z1
  have at0 : (s.heap.push (noneYet w)).get? s.heap.objs.size = some (noneYet w) := Heap.get?_push_size _ rfl
  have ty0 : Shared.TypeIs { s with heap := s.heap.push (noneYet w) } (.ref s.heap.objs.size) "set" := ⟨_, at0, rfl⟩
  have n1 := F.called_set.init.lookup
  have n2 := F.called_set.init.bind (Value.ref s.heap.objs.size)
  repeat (any_goals (first | assumption | wp_step))
  refine codeAny_mono (codeAny_call_builtin (R := wants (fun r t => r = .none ∧ ∃ (g : Heap) (tk m : Nat), t = { s with heap := g, toks := tk } ∧ SetR w g s.heap.objs.size (fun j => decide (j ∈ ns)) m ∧ m ≤ ns.length ∧ (∀ b o, s.heap.get? b = some o → g.get? b = some o)) E)
    F.called_set.init.plain F.entry_set_init (check_set_init_1 ty0 ?_)) fun r2 t2 z2 => ?_
  · obtain ⟨⟨lc, ld, lx, ls⟩, at1, k1, len, k2⟩ := isL
    simp only at k1 k2
    subst k1 k2
    have at2 : (s.heap.push (noneYet w)).get? src = some { cls := .type "list", dict := ld, data := .seq vals len, slots := ls } := Heap.get?_push_of_some _ at1
    have o1 := F.sub_list_set
    have o2 := F.sub_list_frozenset
    have o3 : (Value.type "list" == Value.type "dict") = false := by decide
    have isL2 : (s.heap.push (noneYet w)).IsList src vals := ⟨_, at2, rfl, len, rfl⟩
    unfold Builtin.«set.__init__» noKeywords Builtin.Frozenset.updateFrom
    generalize keep : pyIter = PI
    wp_walk
    subst keep
    refine wpAny_pyIter_list isL2 (wpAny_bind (wpAny_runValue ?_))
    have lt := Heap.lt_size at1
    have sz : (s.heap.push (noneYet w)).objs.size = s.heap.objs.size + 1 := Heap.size_push ..
    have calm3 : A.in1.in1.in1.handled = none := by simp only [Around.in1, calm]
    have apart : src ≠ (s.heap.push (noneYet w)).objs.size := fun z => by
      rw [z, sz] at lt
      exact absurd lt (Nat.not_lt_of_le (Nat.le_succ _))
    have out : s.heap.objs.size ∉ [(s.heap.push (noneYet w)).objs.size, src] := fun z => by
      rcases List.mem_cons.mp z with z | z
      · rw [sz] at z
        exact absurd z (Nat.ne_of_lt (Nat.lt_succ_self _))
      · rw [List.mem_singleton.mp z] at lt
        exact Nat.lt_irrefl _ lt
    have each : ∀ (i : Nat) (v : Value), vals[i]? = some v → ∃ k t, ns[i]? = some k ∧ v = .int k t := fun i v hv => by
      have li : i < ns.length := many ▸ (Array.getElem?_eq_some_iff.mp hv).1
      obtain ⟨t, e⟩ := PyProof.Rows.IntsAre.int_at nums i v (by rw [Array.getElem?_toList]; exact hv)
      exact ⟨ns[i], t, List.getElem?_eq_getElem li, by rw [e, List.getD_eq_getElem?_getD, List.getElem?_eq_getElem li]; rfl⟩
    refine set_update_ints (Walks.list calm3 _ src apart vals).toS s.heap.objs.size out ns many few each (vals.size - 0) 0 _ rfl (Nat.zero_le _) ⟨⟨_, Heap.get?_push_size _ rfl, rfl, rfl⟩, isL2.push _⟩
      ⟨0, Nat.le_refl 0, setR_new_at (Heap.get?_push_of_some _ at0)⟩ fun t m mv lm Rt => ?_
    obtain ⟨g, gg, dd, tk, os⟩ := t
    obtain rfl : gg = s.gens := mv.gens
    obtain rfl : dd = s.drawn := mv.drawn
    obtain rfl : os = s.os := mv.os
    show wpAny _ _ _ _ _ _
    refine wpAny_pure (show wpAny _ _ (ret Value.none) _ _ _ from wpAny_pure ⟨rfl, g, tk, m, rfl, Rt, many ▸ lm, fun b o e => ?_⟩)
    have lb := Heap.lt_size e
    refine mv.heap b o (fun z => ?_) (Heap.get?_push_of_some _ (Heap.get?_push_of_some _ e))
    rcases List.mem_cons.mp z with z | z
    · rw [z] at lb
      exact Nat.lt_irrefl _ lb
    · rw [List.mem_singleton.mp z, sz] at lb
      exact absurd lb (Nat.not_lt_of_le (Nat.le_succ _))
  · cases r2 with
    | error _ => exact z2
    | ok f2 =>
    cases f2 with
    | next => exact z2.elim
    | brk => exact z2.elim
    | cont => exact z2.elim
    | ret _ =>
    obtain ⟨rfl, g, tk, m, rfl, Rt, lm, old⟩ := z2
    repeat (any_goals (first | assumption | wp_step))
    exact fin g tk m Rt lm old
end
section
variable {X : Cx}
def rSetN (K : PySem.W.Frag) (w : World) : List V → Hp → VK → Prop := fun xs H Q => ∃ (l : Addr) (ns : List Int), xs = [V.ref l] ∧ SqA K H l (ns.map V.int) ∧ ns.length < 64 ∧ ∀ (p : Addr) (m : Nat), m ≤ ns.length → H p = none → Q (.ref p) (upd H p (SetO w p (fun j => decide (j ∈ ns)) m))
theorem cr_setN (hc : X.calm = true) : CallR X (.type "set") (rSetN X.K X.w) := by
  intro pins s σ H xs us Q I r h
  obtain ⟨l, ns, rfl, hq, h64, q⟩ := h
  rw [Vals.ref1 r]
  have few : ns.length + 1 < scanBound := Nat.lt_trans (by omega : ns.length + 1 < 65) (by decide)
  rcases hq with hq | hq
  · obtain ⟨its, rv, pl, _⟩ := I.list hq
    refine set_of_list ns (I.ok.hd hc) pl.isList (RZ.intsAre_vals rv) few fun g tk m R lm old => ?_
    exact ⟨.ref _, _, I.laid (t' := tk) old (Nat.le_refl _) (setO_new R), rfl, q _ m lm (I.hok.fresh (Nat.le_refl _))⟩
  · obtain ⟨its, rv, pl, _⟩ := I.tuple hq
    refine call_set_tupI ns (I.ok.hd hc) (show s.heap.IsTuple l its.toArray from pl) (RZ.intsAre_vals rv) few fun g tk m R lm old => ?_
    exact ⟨.ref _, _, I.laid (t' := tk) old (Nat.le_refl _) (setO_new R), rfl, q _ m lm (I.hok.fresh (Nat.le_refl _))⟩
end
/-- strictly rising lists of the same numbers are the same -/
theorem rising_eq : ∀ {a b : List Int}, a.Pairwise (· < ·) → b.Pairwise (· < ·) → (∀ k, k ∈ a ↔ k ∈ b) → a = b
  | [], [], _, _, _ => rfl
  | [], y :: b, _, _, h => absurd ((h y).mpr List.mem_cons_self) List.not_mem_nil
  | x :: a, [], _, _, h => absurd ((h x).mp List.mem_cons_self) List.not_mem_nil
  | x :: a, y :: b, ha, hb, h => by
    obtain ⟨ha1, ha2⟩ := List.pairwise_cons.mp ha
    obtain ⟨hb1, hb2⟩ := List.pairwise_cons.mp hb
    have e : x = y := by
      rcases List.mem_cons.mp ((h x).mp List.mem_cons_self) with z | z
      · exact z
      · rcases List.mem_cons.mp ((h y).mpr List.mem_cons_self) with u | u
        · exact u.symm
        · have := hb1 x z
          have := ha1 y u
          omega
    subst e
    have t : a = b := rising_eq ha2 hb2 fun k => by
      constructor
      · intro z
        rcases List.mem_cons.mp ((h k).mp (List.mem_cons_of_mem _ z)) with u | u
        · have := ha1 k z
          omega
        · exact u
      · intro z
        rcases List.mem_cons.mp ((h k).mpr (List.mem_cons_of_mem _ z)) with u | u
        · have := hb1 k z
          omega
        · exact u
    rw [t]
/-- out is the numbers of ns in order, each once -/
def Sorted (out ns : List Int) : Prop := out.Pairwise (· < ·) ∧ ∀ k, k ∈ out ↔ k ∈ ns
theorem Sorted.eq {a b ns ms : List Int} (ha : Sorted a ns) (hb : Sorted b ms) (h : ∀ k, k ∈ ns ↔ k ∈ ms) : a = b := rising_eq ha.1 hb.1 fun k => by rw [ha.2, h, hb.2]
/-! ### t.index(k), t a tuple of numbers -/
def rIdxT (K : PySem.W.Frag) : V → List V → Hp → VK → Prop := fun x xs H Q => ∃ (p : Addr) (ns : List Int) (k : Int) (j : Nat), x = .ref p ∧ xs = [.int k] ∧ SqT K H p (ns.map V.int) ∧ ns[j]? = some k ∧ (∀ m, m < j → ns[m]? ≠ some k) ∧ Q (.int (j : Nat)) H
theorem mt_idxT {X : Cx} : MtR X "tuple.index" (rIdxT X.K) := by
  rintro pins s σ H _ _ v us Q I rx rs ⟨p, ns, k, j, rfl, rfl, hq, hk, first, q⟩
  cases rx
  obtain ⟨u, rfl, t, rfl⟩ := vals1 rs
  obtain ⟨its, r, ⟨⟨cl, dd, dat, sl⟩, ho, rfl, n, rfl⟩, _⟩ := I.tuple hq
  have len : its.toArray.size = ns.length := by
    have := r.length
    rw [List.length_map] at this
    rw [List.size_toArray]
    exact this.symm
  have place : ∀ (m : Nat) (hm : m < its.toArray.size), ∃ y t', ns[m]? = some y ∧ its.toArray[m] = Value.int y t' := by
    intro m hm
    have lm : m < ns.length := len ▸ hm
    obtain ⟨v', hv, t', rfl⟩ := r.get (i := m) (x := .int ns[m]) (by rw [List.getElem?_map, List.getElem?_eq_getElem lm]; rfl)
    exact ⟨ns[m], t', List.getElem?_eq_getElem lm, by simpa using (List.getElem?_eq_some_iff.mp hv).2⟩
  have lj : j < its.toArray.size := len ▸ (List.getElem?_eq_some_iff.mp hk).1
  have W := TI.tuple_indexAt p its.toArray n dd sl (.int k t) (eqU (.int k)) j lj (by
    obtain ⟨y, t', h1, h2⟩ := place j lj
    rw [h2, show y = k from Option.some.inj (h1.symm.trans hk)]
    exact beq_self_eq_true k) (by
    intro m hm lt
    obtain ⟨y, t', h1, h2⟩ := place m hm
    rw [h2]
    exact beq_eq_false_iff_ne.mpr fun e => first m lt (by rw [h1, e]))
  refine call_meets PySem.F.slot_tuple_index ⟨_, ho, rfl⟩ PySem.F.entry_tuple_index (PySem.F.args_tuple_index_2 _ _) W ⟨ho, fun w' hw => ?_, .int (j : Nat), H, I.tok _, ⟨_, rfl⟩, q⟩
  refine mem_eqAt (x := .int k) ⟨t, rfl⟩ rfl r ?_ w' (by simpa using hw)
  rw [List.all_map]
  exact List.all_eq_true.mpr fun _ _ => rfl
/-! ### tuples made by tuple(list), known to the object; their methods -/
def FrzT (H : Hp) (a : Addr) (xs : List V) : Prop := ∃ o : Obj, o.cls = .type "tuple" ∧ o.dict = none ∧ H a = some (.frz o (.tup xs))
theorem FrzT.sq {K : PySem.W.Frag} {H : Hp} {a : Addr} {xs : List V} (h : FrzT H a xs) : SqT K H a xs := let ⟨o, _, _, e⟩ := h; Or.inl (Or.inr ⟨o, e⟩)
section
variable {X : Cx}
def rTupF (K : PySem.W.Frag) : List V → Hp → VK → Prop := fun xs H Q => ∃ (p : Addr) (ys : List V), xs = [.ref p] ∧ SqL K H p ys ∧ ∀ (l : Addr) (o : Obj), o.cls = .type "tuple" → o.dict = none → H l = none → Q (.ref l) (upd H l (.frz o (.tup ys)))
theorem cr_tupF : CallR X (.type "tuple") (rTupF X.K) := by
  rintro pins s σ H xs us Q I r ⟨p, ys, rfl, hq, q⟩
  rw [Vals.ref1 r]
  obtain ⟨its, rv, pl, hz⟩ := I.list hq
  have few := rv.length
  refine call_tuple_list pl.isList (fun g old => ?_) (by rw [List.size_toArray]; omega)
  have I1 : Inv X pins σ H { s with heap := g } := I.kept (t' := s.toks) old
  let o : Obj := { cls := .type "tuple", data := .seq its.toArray }
  have ok : ObjOk X.prog X.w (upd H g.objs.size (.frz o (.tup ys))) (g.push o) g.objs.size (.frz o (.tup ys)) := ⟨Heap.get?_push_size _ rfl, hz, its, rv, IsTup.new _ _⟩
  exact ⟨.ref g.objs.size, _, I1.laid (t' := s.toks) (fun b u e => Heap.get?_push_of_some _ e) (Nat.le_refl _) ok, rfl, q _ o rfl rfl (I1.hok.fresh (Nat.le_refl _))⟩
def tBMT (r : V → List V → Hp → VK → Prop) (to : TE) (t : TA) : TE := fun σ H Q => to σ H fun x H1 => (∃ (a : Addr) (xs : List V), x = .ref a ∧ FrzT H1 a xs) ∧ t σ H1 fun vs H2 => r x vs H2 Q
variable {o e : Expr} {es : List Expr} {to : TE} {t : TA} {name id : String} {apos cpos : Pos} {r : V → List V → Hp → VK → Prop}
theorem pe_bmT (slot : Slot "tuple" name id) (des : typeOf (.builtin id) = pure (.type "method_descriptor")) (hm : MtR X id r) (ho : PE X o to) (ha : PA X (e :: es) t)
    (plainO : attributeBase o name X.env (eval o X.env) = eval o X.env := by rfl)
    (form : ((backTo cpos (starEach (e :: es) X.env)).all (fun x => !x.1) && (backToKw cpos (keywordEach [] X.env)).all (fun x => x.1.isSome) && decide ((e :: es).length + ([] : List Keyword).length + (if ([] : List Keyword).isEmpty then 0 else 1) < 30)) = true := by rfl)
    (row : (apos.endLine == cpos.line) = true := by rfl) (trees : starEach (e :: es) X.env = (false, eval e X.env) :: starEach es X.env := by rfl)
    (noStar : (backTo cpos (starEach es X.env)).any (·.1) = false := by rfl) : PE X (.Call (.Attribute o name apos) (e :: es) [] cpos) (tBMT r to t) := by
  refine ⟨fun pins s σ H Q I h => wpAny_Call_method_late plainO form row rfl (thn (ho.run pins s σ H _ I h) fun v s1 ⟨x, H1, I1, r1, ⟨a, xs, ex, o1, c1, d1, f1⟩, q1⟩ => ?_)⟩
  subst ex
  cases r1
  obtain ⟨got, _⟩ := I1.hok a _ f1
  refine ⟨"tuple", id, PySem.F.plainAttrs_tuple, slot, des, ⟨o1, got, c1⟩, fun b eb => ?_, ?_⟩
  · cases eb
    exact ⟨o1, got, d1⟩
  · have run := ha.run cpos pins s1 σ H1 _ I1 q1
    rw [trees] at run ⊢
    refine Calls.callWith_builtin ?_ (Calls.evalArgs_plain (thn run fun us s2 ⟨vs, H2, I2, r2, q2⟩ => hm pins s2 σ H2 (.ref a) vs (.ref a) us Q I2 rfl r2 q2))
    show (false || (backTo cpos (starEach es X.env)).any (·.1)) = false
    rw [noStar]
    rfl
end
/-! ### generator expressions whose elements are new objects -/
/-- a value that is brought at a place, with the objects that were made for it -/
abbrev Bring : Type := Nat → Value → List (Addr × Obj) → Prop
def bringP (C : Addr) (fp wr : List Addr) (pz : Nat → Bool) (n : Nat) (B : Bring) : Protocol := fun m s0 v s back =>
  (∃ i news, (passing pz n 0)[(passing pz n 0).length - 1 - m]? = some i ∧ B i v news ∧ (news.map Prod.fst).Nodup ∧ ∀ p ∈ news, p.1 ≠ C ∧ p.1 ∉ wr ∧ s0.heap.get? p.1 = none ∧ s.heap.get? p.1 = some p.2) ∧
  GenSince C wr s0 s ∧ ∀ z : Shared, (∀ b ∈ C :: fp, ∀ o, s.heap.get? b = some o → z.heap.get? b = some o) → back (.send .none) z
def endP (C : Addr) (wr : List Addr) : GenEnd := fun k s0 r s => r = .ok .next ∧ (k = 0 ∧ GenSince C wr s0 s)
structure Makes (P : Program) (w : World) (env : Env) (x : Str) (ifs : List Expr) (elt : Expr) (fp wr : List Addr) (It : Nat → Value → Prop) (pz : Nat → Bool) (B : Bring) (h0 : Heap) : Prop where
  quiet : QuietGen P w env x ifs elt fp wr It pz (fun _ _ => True) h0
  makes : ∀ (A' : Around) E' i v (s : Shared) m, A'.handled = none → It i v → pz i = true → s.heap.Ns env.locals m → m x = some v → (∀ b ∈ fp, b ∉ wr → ∀ o, h0.get? b = some o → s.heap.get? b = some o) →
    wpAny (model P w) A' (eval elt env) (fun y s2 => (∃ news, B i y news ∧ (news.map Prod.fst).Nodup ∧ ∀ p ∈ news, s.heap.get? p.1 = none ∧ s2.heap.get? p.1 = some p.2) ∧ PySem.Keeps s s2) E' s
theorem since_get {C : Addr} {wr : List Addr} {s0 s : Shared} (g : GenSince C wr s0 s) {b : Addr} (h1 : b ≠ C) (h2 : b ∉ wr) (h : s.heap.get? b = none) : s0.heap.get? b = none := by
  obtain ⟨h', t, rfl, k⟩ := g
  cases e : s0.heap.get? b with
  | none => rfl
  | some o => rw [k b o h1 h2 e] at h; cases h
section
variable {P : Program} {w : World} {A : Around} {elt iter : Expr} {x : Str} {px pos : Pos} {ifs : List Expr} {scope : Scope} {I : Addr} {fp wr : List Addr} {n : Nat} {It : Nat → Value → Prop} {St : Nat → Heap → Prop} {env : Env} {pz : Nat → Bool} {B : Bring} {h0 : Heap}
theorem bring_loop (calm : A.handled = none) (W : ∀ A' : Around, A'.handled = none → Walks P w A' I fp wr n It St) (live : ∀ i h, St i h → ∀ b ∈ wr, ∃ o, h.get? b = some o) (hx : env.kindOf x = some .local)
    (hk : (env.scope.kind == .class || (env.scope.kind == .module && env.locals != env.globals)) = false) (co : env.scope.isCoroutine = false) (out : env.locals ∉ fp) (M : Makes P w env x ifs elt fp wr It pz B h0) (k : Nat) :
    ∀ (i : Nat) (s0 s : Shared) (m : Str → Option Value), n - i = k → i ≤ n → St i s.heap → s.heap.Ns env.locals m → GenSince env.locals wr s0 s → (∀ b ∈ fp, b ∉ wr → ∀ o, h0.get? b = some o → s.heap.get? b = some o) →
      Seg (model P w) A (endP env.locals wr) (bringP env.locals fp wr pz n B) (passing pz n i).length s0 (.compLoop (.GeneratorExp elt [⟨.Name x px, iter, ifs, 0⟩] scope pos) 0 (.ref I) .none env)
        ((model P w).den (.compLoop (.GeneratorExp elt [⟨.Name x px, iter, ifs, 0⟩] scope pos) 0 (.ref I) .none env)) [] s := by
  have calm2 : (A.over (.compLoop (.GeneratorExp elt [⟨.Name x px, iter, ifs, 0⟩] scope pos) 0 (.ref I) .none env) []).handled = none := calm
  have notw : env.locals ∉ wr := fun z => out ((W A calm).sub _ z)
  induction k with
  | zero =>
    intro i s0 s m e le st ns since kp
    obtain rfl : i = n := by omega
    refine (?_ : Seg _ A _ _ _ s0 _ ((compTurn (.GeneratorExp elt [⟨.Name x px, iter, ifs, 0⟩] scope pos) 0 (.ref I) .none env).onRaise (leaving env)) [] s)
    rw [Sem.onRaise_eq_wrap, compTurn_gen]
    refine seg_bind_wrap (wpAny_standAt (seg_bind_wrap ((W _ calm2).done s _ _ st fun h' t k' => seg_end (.ok .next) ⟨rfl, ?_, since.step fun b o _ hw e => k' b o hw e⟩)))
    rw [passing_end]
    rfl
  | succ k ih =>
    intro i s0 s m e le st ns since kp
    have lt : i < n := by omega
    refine (?_ : Seg _ A _ _ _ s0 _ ((compTurn (.GeneratorExp elt [⟨.Name x px, iter, ifs, 0⟩] scope pos) 0 (.ref I) .none env).onRaise (leaving env)) [] s)
    rw [Sem.onRaise_eq_wrap, compTurn_gen]
    refine seg_bind_wrap (wpAny_standAt (seg_bind_wrap ((W _ calm2).item i s _ _ lt st fun v h1 t1 hv st1 k1 => seg_bind_wrap (wpAny_of_eq (rfl : letOwnedTupleGo (.Name x px) (.ref I) v = pure ()) (seg_bind_wrap (wpAny_assign_Name (wpAny_storeName_local hx (ns.at' fun o e => k1 _ o notw e) (fun h2 ns2 same2 => ?_) hk)))))))
    have old2 : ∀ b o, b ≠ env.locals → b ∉ wr → s.heap.get? b = some o → h2.get? b = some o := fun b o z1 z2 e => same2.extBut b o z1 (k1 b o z2 e)
    have st2 : St (i + 1) h2 := (W A calm).frame _ _ _ st1 fun b hb o e => same2.extBut b o (fun z => out (z ▸ hb)) e
    have kp2 : ∀ b ∈ fp, b ∉ wr → ∀ o, h0.get? b = some o → h2.get? b = some o := fun b hb z o e => old2 b o (fun y => out (y ▸ hb)) z (kp b hb z o e)
    refine seg_bind_wrap (wpAny_mono (M.quiet.tests _ _ i v _ _ calm2 hv ns2 (by simp) kp2) (fun ok s3 q => ?_) fun _ _ z => z)
    obtain ⟨rfl, h3, t3, rfl, k3⟩ := q
    have st3 : St (i + 1) h3 := (W A calm).frame _ _ _ st2 fun b _ o e => k3 b o e
    have since3 : GenSince env.locals wr s0 { s with heap := h3, toks := t3 } := since.step fun b o z1 z2 e => k3 b o (old2 b o z1 z2 e)
    have ns3 := ns2.keeps k3
    cases hp : pz i with
    | false =>
      rw [passing_false lt hp]
      rw [if_neg (by decide)]
      exact seg_again rfl (ih (i + 1) s0 _ _ (by omega) lt st3 ns3 since3 fun b hb z o e => k3 b o (kp2 b hb z o e))
    | true =>
      have yo : ∀ u, yieldOut env u = yieldValue u := fun u => by simp only [yieldOut, co, Bool.false_eq_true, if_false]
      rw [passing_true lt hp, List.length_cons, if_pos rfl]
      simp only [yo]
      rw [Sem.bind_eq_wrap', Sem.bind_eq_wrap', Sem.wrap_wrap, Sem.wrap_wrap]
      refine seg_wrap (wpAny_mono (M.makes _ _ i v _ _ calm2 hv hp ns3 (by simp) fun b hb z o e => k3 b o (kp2 b hb z o e)) (fun y s4 q => ?_) fun _ _ z => z)
      obtain ⟨⟨news, hB, nd, hn⟩, h4, t4, rfl, k4⟩ := q
      refine seg_at (seg_yield rfl rfl rfl ⟨⟨i, news, passing_here lt hp, hB, nd, fun p hp' => ?_⟩, since3.step fun b o _ _ e => k4 b o e, fun z hz => ?_⟩)
      · obtain ⟨n1, n2⟩ := hn p hp'
        have c1 : p.1 ≠ env.locals := fun e => by
          obtain ⟨ob, es, ep, ho, _⟩ := ns3
          rw [e] at n1
          exact absurd (ho.symm.trans n1) (by simp)
        have c2 : p.1 ∉ wr := fun hw => by
          obtain ⟨ob, ho⟩ := live _ _ st3 p.1 hw
          exact absurd (ho.symm.trans n1) (by simp)
        exact ⟨c1, c2, since_get since3 c1 c2 n1, n2⟩
      · exact seg_again rfl (ih (i + 1) z z _ (by omega) lt ((W A calm).frame _ _ _ st3 fun b hb o e => hz b (List.mem_cons_of_mem _ hb) o (k4 b o e)) ((ns3.keeps k4).at' fun o e => hz _ (List.mem_cons_self ..) o e) (GenSince.refl _ _ _)
          fun b hb y o e => hz b (List.mem_cons_of_mem _ hb) o (k4 b o (k3 b o (kp2 b hb y o e))))
end
/-! ### such an expression, started and drawn from -/
def Ready (P : Program) (w : World) (A : Around) (a : Addr) (g : Nat) (C : Addr) (fp wr : List Addr) (pz : Nat → Bool) (n : Nat) (B : Bring) (j : Nat) (s : Shared) : Prop :=
  s.heap.IsGen a g ∧ s.heap.NoLimit ∧ ∃ gs, s.gens[g]? = some gs ∧ ∀ z : Shared, (∀ b ∈ C :: fp, ∀ o, s.heap.get? b = some o → z.heap.get? b = some o) →
    gs.Goes (model P w) A.in1 (endP C wr) (bringP C fp wr pz n B) ((passing pz n 0).length - j) (.send .none) z
section
variable {P : Program} {w : World} {A : Around} {a C : Addr} {g : Nat} {fp wr : List Addr} {pz : Nat → Bool} {n j : Nat} {B : Bring} {s : Shared}
theorem Ready.keep {h' : Heap} {t : Nat} (R : Ready P w A a g C fp wr pz n B j s) (hcs : cStatics ∈ fp) (k : ∀ b ∈ a :: C :: fp, ∀ o, s.heap.get? b = some o → h'.get? b = some o) : Ready P w A a g C fp wr pz n B j { s with heap := h', toks := t } := by
  obtain ⟨⟨o, nm, qn, ho, r⟩, ⟨mc, c1, c2⟩, gs, e, go⟩ := R
  exact ⟨⟨o, nm, qn, k a (List.mem_cons_self ..) o ho, r⟩, ⟨mc, c1.at' fun o e => k cStatics (List.mem_cons_of_mem _ (List.mem_cons_of_mem _ hcs)) o e, c2⟩, gs, e, fun z hz => go z fun b hb o e => hz b hb o (k b (List.mem_cons_of_mem _ hb) o e)⟩
/-- where it stands: its own address, the frame's, what it goes over -/
structure Apart (A : Around) (a C : Addr) (fp wr : List Addr) : Prop where
  calm : A.handled = none
  aC : a ≠ C
  af : a ∉ fp
  sub : ∀ b ∈ wr, b ∈ fp
  room : A.depth < recursionLimit
  cs : cStatics ∈ fp
  csC : cStatics ≠ C
  csw : cStatics ∉ wr
theorem Ready.next (R : Ready P w A a g C fp wr pz n B j s) (T : Apart A a C fp wr) (hj : j < (passing pz n 0).length) {Q : Option Value → Shared → Prop} {E : Value → Shared → Prop}
    (q : ∀ v s' i news, (passing pz n 0)[j]? = some i → B i v news → (news.map Prod.fst).Nodup → (∀ p ∈ news, p.1 ≠ C ∧ p.1 ∉ wr ∧ s.heap.get? p.1 = none ∧ s'.heap.get? p.1 = some p.2) → Ready P w A a g C fp wr pz n B (j + 1) s' → Moved (C :: wr) (GenOnlyQ g) s s' → Q (some v) s') :
    wpAny (model P w) A (pyNext (.ref a)) Q E s := by
  obtain ⟨isg, lim, gs, e, go⟩ := R
  obtain ⟨m, hm⟩ : ∃ m, (passing pz n 0).length - j = m + 1 := ⟨(passing pz n 0).length - j - 1, by omega⟩
  rw [hm] at go
  have aw : a ∉ wr := fun z => T.af (T.sub a z)
  refine wpAny_with_toks (Nat.le_refl s.toks) (wpAny_pyNext_genexpQ (P := fun k s0 s1 => k = 0 ∧ GenSince C wr s0 s1) T.calm lim T.room isg e (go _ fun _ _ _ z => z) (fun v s1 gs' bare hv => ?_) (fun s1 z _ _ => absurd z.1 (Nat.succ_ne_zero m)))
  obtain ⟨⟨i, news, at_, hB, nd, hn⟩, ⟨h1, t1, rfl, k1⟩, back⟩ := hv
  rw [show (passing pz n 0).length - 1 - (m + 1 - 1) = j by omega] at at_
  intro tk
  have mv : Moved (C :: wr) (GenOnlyQ g) s (({ s.setGen g .running with heap := h1, toks := t1 } : Shared).setGen g gs') :=
    ⟨fun b o hb z => k1 b o (fun y => hb (y ▸ List.mem_cons_self ..)) (fun y => hb (List.mem_cons_of_mem _ y)) z, GenOnlyQ.of ((GenOnly.setGen s g .running).trans (GenOnly.setGen _ g gs')) (setGen_self (gs := .running) (setGen_self e)) bare, rfl, rfl, tk⟩
  refine q v _ i news at_ hB nd hn ⟨?_, ?_, gs', setGen_self (gs := .running) (setGen_self e), fun z hz => ?_⟩ mv
  · obtain ⟨o, nm, qn, ho, r⟩ := isg
    exact ⟨o, nm, qn, k1 a o T.aC aw ho, r⟩
  · obtain ⟨mc, c1, c2⟩ := lim
    exact ⟨mc, c1.at' fun o z => k1 cStatics o T.csC T.csw z, c2⟩
  · rw [show (passing pz n 0).length - (j + 1) = m by omega]
    exact back z hz
theorem Ready.done (R : Ready P w A a g C fp wr pz n B j s) (T : Apart A a C fp wr) (hj : j = (passing pz n 0).length) {Q : Option Value → Shared → Prop} {E : Value → Shared → Prop} (q : ∀ s', Moved (C :: wr) (GenOnlyQ g) s s' → Q none s') :
    wpAny (model P w) A (pyNext (.ref a)) Q E s := by
  obtain ⟨isg, lim, gs, e, go⟩ := R
  rw [hj, Nat.sub_self] at go
  refine wpAny_with_toks (Nat.le_refl s.toks) (wpAny_pyNext_genexpQ (P := fun k s0 s1 => k = 0 ∧ GenSince C wr s0 s1) T.calm lim T.room isg e (go _ fun _ _ _ z => z) (fun v s1 gs' _ hv => ?_) (fun s1 hp h' k => ?_))
  · obtain ⟨_, _, back⟩ := hv
    exact (back s1 fun _ _ _ z => z).elim
  · obtain ⟨_, h1, t1, rfl, k1⟩ := hp
    intro tk
    exact q _ ⟨fun b o hb z => k b o (k1 b o (fun y => hb (y ▸ List.mem_cons_self ..)) (fun y => hb (List.mem_cons_of_mem _ y)) z), GenOnlyQ.of ((GenOnly.setGen s g .running).trans (GenOnly.setGen _ g .finished)) (setGen_self (gs := .running) (setGen_self e)) rfl, rfl, rfl, tk⟩
/-- what has been brought so far: the values, and for each the objects made for it, none of which was there at first -/
structure Sofar (pz : Nat → Bool) (n : Nat) (B : Bring) (wr : List Addr) (h0 : Heap) (j : Nat) (acc : Array Value) (nss : List (List (Addr × Obj))) (s : Shared) : Prop where
  size : acc.size = j
  len : nss.length = j
  each : ∀ (k : Nat) v news, acc[k]? = some v → nss[k]? = some news → ∃ i, (passing pz n 0)[k]? = some i ∧ B i v news
  nd : (nss.flatten.map Prod.fst).Nodup
  there : ∀ p ∈ nss.flatten, p.1 ∉ wr ∧ h0.get? p.1 = none ∧ s.heap.get? p.1 = some p.2
theorem Sofar.more {h0 : Heap} {acc : Array Value} {nss : List (List (Addr × Obj))} {v : Value} {i : Nat} {news : List (Addr × Obj)} {s' : Shared} (F : Sofar pz n B wr h0 j acc nss s) (hi : (passing pz n 0)[j]? = some i) (hB : B i v news) (nd : (news.map Prod.fst).Nodup)
    (old : ∀ b o, b ∉ wr → s.heap.get? b = some o → s'.heap.get? b = some o) (fr : ∀ p ∈ news, p.1 ∉ wr ∧ h0.get? p.1 = none ∧ s.heap.get? p.1 = none ∧ s'.heap.get? p.1 = some p.2) : Sofar pz n B wr h0 (j + 1) (acc.push v) (nss ++ [news]) s' := by
  refine ⟨by rw [Array.size_push, F.size], by rw [List.length_append, List.length_singleton, F.len], fun k u ns h1 h2 => ?_, ?_, fun p hp => ?_⟩
  · rw [Array.getElem?_push, F.size] at h1
    by_cases e : k = j
    · subst e
      rw [if_pos rfl] at h1
      rw [List.getElem?_append_right (by rw [F.len]; exact Nat.le_refl _), F.len, Nat.sub_self] at h2
      cases h1
      cases h2
      exact ⟨i, hi, hB⟩
    · rw [if_neg e] at h1
      have lt : k < j := by rw [← F.size]; exact (Array.getElem?_eq_some_iff.mp h1).1
      rw [List.getElem?_append_left (by rw [F.len]; exact lt)] at h2
      exact F.each k u ns h1 h2
  · rw [List.flatten_append, List.map_append, List.flatten_singleton]
    refine List.nodup_append.mpr ⟨F.nd, nd, fun b hb c hc z => ?_⟩
    obtain ⟨p, hp, e1⟩ := List.mem_map.mp hb
    obtain ⟨r, hr, e2⟩ := List.mem_map.mp hc
    have y1 := (F.there p hp).2.2
    have y2 := (fr r hr).2.2.1
    rw [e1, z, ← e2, y2] at y1
    cases y1
  · rw [List.flatten_append, List.flatten_singleton] at hp
    rcases List.mem_append.mp hp with z | z
    · obtain ⟨z1, z2, z3⟩ := F.there p z
      exact ⟨z1, z2, old _ _ z1 z3⟩
    · obtain ⟨z1, z2, _, z3⟩ := fr p z
      exact ⟨z1, z2, z3⟩
end
/-! ### tuple(..) of such an expression -/
abbrev listO (acc : Array Value) (c : Nat) : Obj := { cls := .type "list", dict := none, data := .seq acc c, slots := #[] }
section
variable {P : Program} {w : World} {D : Around} {a C S : Addr} {g : Nat} {fp wr : List Addr} {pz : Nat → Bool} {n : Nat} {B : Bring} {h0 : Heap} {R : Result → Shared → Prop}
theorem bring_extend (T : Apart D.in1.in1 a C fp wr) (few : (passing pz n 0).length ≤ sizeLine) (Sa : S ≠ a) (SC : S ≠ C) (Sf : S ∉ fp) (res : Value) (k : Nat) : ∀ (j : Nat) (s : Shared) (acc : Array Value) (c : Nat) (nss : List (List (Addr × Obj))),
    (passing pz n 0).length - j = k → j ≤ (passing pz n 0).length → Ready P w D.in1.in1 a g C fp wr pz n B j s → s.heap.get? S = some (listO acc c) → Sofar pz n B (S :: C :: wr) h0 j acc nss s → (∀ b o, b ∉ S :: C :: wr → h0.get? b = some o → s.heap.get? b = some o) →
    (∀ s' acc' c' nss', Moved (S :: C :: wr) (GenOnlyQ g) s s' → s'.heap.get? S = some (listO acc' c') → Sofar pz n B (S :: C :: wr) h0 (passing pz n 0).length acc' nss' s' → R (.ok (.ret res)) s') →
      codeAny (model P w) D (.builtin "list.extend.loop" ⟨[.ref S, .ref a, res], []⟩) R s := by
  have Sw : S ∉ C :: wr := fun z => (List.mem_cons.mp z).elim SC fun y => Sf (T.sub _ y)
  have wider : ∀ b ∈ C :: wr, b ∈ S :: C :: wr := fun b hb => List.mem_cons_of_mem _ hb
  have gt : ∀ x y z, GenOnlyQ g x y → GenOnlyQ g y z → GenOnlyQ g x z := fun _ _ _ x y => x.trans y
  induction k with
  | zero =>
    intro j s acc c nss e le rd hS F old q
    have ej : j = (passing pz n 0).length := by omega
    refine codeAny_builtin PySem.F.entry_extend_loop ?_
    rw [Around.under_plainId PySem.F.plain_extend_loop _]
    refine (?_ : wpAny _ D.in1 (pyNext (.ref a) >>= _) _ _ s)
    refine wpAny_bind (wpAny_of_in1 (rd.done T ej fun s' mv => wpAny_pure (q s' acc c nss (mv.mono wider) (mv.heap S _ Sw hS) ?_)))
    rw [← ej]
    exact ⟨F.size, F.len, F.each, F.nd, fun p hp => let ⟨z1, z2, z3⟩ := F.there p hp; ⟨z1, z2, mv.heap _ _ (fun y => z1 (wider _ y)) z3⟩⟩
  | succ k ih =>
    intro j s acc c nss e le rd hS F old q
    refine codeAny_builtin PySem.F.entry_extend_loop ?_
    rw [Around.under_plainId PySem.F.plain_extend_loop _]
    refine (?_ : wpAny _ D.in1 (pyNext (.ref a) >>= _) _ _ s)
    refine wpAny_bind (wpAny_of_in1 (rd.next T (by omega) fun v s' i news hi hB nd hn rd' mv => ?_))
    have hS' := mv.heap S _ Sw hS
    refine (?_ : wpAny _ D.in1 (updateSeq S (·.push v) >>= _) _ _ s')
    have other : ∀ b o, b ≠ S → s'.heap.get? b = some o → (s'.heap.update S (Obj.mapSeq (·.push v))).get? b = some o := fun b o hb z => (Heap.get?_update_other _ _ (Ne.symm hb)).trans z
    have far : ∀ p ∈ news, p.1 ≠ S := fun p hp z => by
      have y := (hn p hp).2.2.1
      rw [z, hS] at y
      cases y
    have out : ∀ p ∈ news, p.1 ∉ S :: C :: wr := fun p hp z => by
      rcases List.mem_cons.mp z with y | y
      · exact far p hp y
      · rcases List.mem_cons.mp y with y | y
        · exact (hn p hp).1 y
        · exact (hn p hp).2.1 y
    have up : ∀ b o, b ∉ S :: C :: wr → s.heap.get? b = some o → (s'.heap.update S (Obj.mapSeq (·.push v))).get? b = some o := fun b o hb z => other b o (fun y => hb (y ▸ List.mem_cons_self ..)) (mv.heap b o (fun y => hb (List.mem_cons_of_mem _ y)) z)
    have F' : Sofar pz n B (S :: C :: wr) h0 (j + 1) (acc.push v) (nss ++ [news]) { s' with heap := s'.heap.update S (Obj.mapSeq (·.push v)) } := F.more hi hB nd up fun p hp => by
      refine ⟨out p hp, ?_, (hn p hp).2.2.1, other _ _ (far p hp) (hn p hp).2.2.2⟩
      cases z : h0.get? p.1 with
      | none => rfl
      | some o =>
        have y := old _ _ (out p hp) z
        rw [(hn p hp).2.2.1] at y
        cases y
    have rd2 : Ready P w D.in1.in1 a g C fp wr pz n B (j + 1) { s' with heap := s'.heap.update S (Obj.mapSeq (·.push v)) } := rd'.keep (t := s'.toks) T.cs fun b hb o z => other b o (fun y => by
      rcases List.mem_cons.mp hb with x | x
      · exact Sa (y ▸ x)
      · rcases List.mem_cons.mp x with x | x
        · exact SC (y ▸ x)
        · exact Sf (y ▸ x)) z
    refine wpAny_bind (wpAny_updateSeq hS' rfl (wpAny_pure ⟨plainId_quiet PySem.F.plain_extend_loop _, ih (j + 1) _ (acc.push v) _ (nss ++ [news]) (by omega) (by omega) rd2 (Heap.get?_update_self _ hS' rfl) F' (fun b o hb z => up b o hb (old b o hb z)) fun s2 acc2 c2 nss2 mv2 hS2 F2 => ?_⟩) (by rw [F.size]; omega) (by show (acc.push v).size ≤ sizeLine + 1; rw [Array.size_push, F.size]; omega))
    exact q s2 acc2 c2 nss2 (Moved.trans gt ((mv.mono wider).then_heap (by first | exact Nat.le_refl _ | exact Nat.le_succ _ | omega) fun b o hb z => other b o (fun y => hb (y ▸ List.mem_cons_self ..)) z) mv2) hS2 F2
end
section
variable {P : Program} {w : World} {A : Around} {E : Value → Shared → Prop} {s : Shared} {a C : Addr} {g : Nat} {fp wr : List Addr} {pz : Nat → Bool} {n : Nat} {B : Bring}
theorem bring_collect {Q : List Value → Shared → Prop} (T : Apart A.in1.in1 a C fp wr) (rd : Ready P w A.in1.in1 a g C fp wr pz n B 0 s) (few : (passing pz n 0).length ≤ sizeLine) (al : a < s.heap.objs.size) (Cl : C < s.heap.objs.size) (fl : ∀ b ∈ fp, b < s.heap.objs.size)
    (q : ∀ s' acc nss, Moved (C :: wr) (GenOnlyQ g) s s' → Sofar pz n B (C :: wr) s.heap (passing pz n 0).length acc nss s' → Q acc.toList s') : wpAny (model P w) A (collect (.ref a)) Q E s := by
  have gt : ∀ x y z, GenOnlyQ g x y → GenOnlyQ g y z → GenOnlyQ g x z := fun _ _ _ x y => x.trans y
  have isG : ∀ z : Shared, z.heap.IsGen a g → z.TypeIs (.ref a) "generator" := fun z h => h.typeIs
  have Sf : s.heap.objs.size ∉ fp := fun z => Nat.lt_irrefl _ (fl _ z)
  have Sa : s.heap.objs.size ≠ a := fun z => Nat.lt_irrefl _ (z ▸ al)
  have SC : s.heap.objs.size ≠ C := fun z => Nat.lt_irrefl _ (z ▸ Cl)
  have gen0 := rd.1
  have rd1 : Ready P w A.in1.in1 a g C fp wr pz n B 0 { s with heap := s.heap.push { cls := .type "list", data := .seq ([] : List Value).toArray } } := rd.keep (t := s.toks) T.cs fun b _ o z => Heap.get?_push_of_some _ z
  unfold collect
  refine wpAny_bind (wpAny_runValue (codeAny_builtin PySem.F.entry_proto_collect ?_))
  rw [Around.under_plainId PySem.F.plain_proto_collect _]
  refine (?_ : wpAny _ A.in1 (newList [] >>= fun l => again (.builtin "list.__iadd__" ⟨[l, .ref a], []⟩)) _ _ s)
  refine wpAny_bind (wpAny_newObj_type (wpAny_pure ⟨plainId_quiet PySem.F.plain_list_iadd _, codeAny_builtin PySem.F.entry_list_iadd ?_⟩))
  rw [Around.under_plainId PySem.F.plain_list_iadd _]
  refine (?_ : wpAny _ A.in1 (Builtin.List.listExtendWith (.ref s.heap.objs.size) (.ref a) (.ref s.heap.objs.size)) _ _ _)
  unfold Builtin.List.listExtendWith
  refine wpAny_bind (wpAny_typeOf (isG _ rd1.1) ?_)
  simp only [show Builtin.List.listSameRef (.ref s.heap.objs.size) (.ref a) = false by simp [Builtin.List.listSameRef, Sa], show (Value.type "generator" == Value.type "list") = false by decide, show (Value.type "generator" == Value.type "tuple") = false by decide, Bool.or_false, Bool.false_eq_true, if_false]
  refine wpAny_bind (wpAny_pyIter_gen rd1.1 (wpAny_bind (wpAny_holding ?_)))
  unfold Builtin.List.listLengthHint
  refine wpAny_bind (wpAny_specialOf (isG _ rd1.1) PySem.F.gen_no_len ?_)
  refine (?_ : wpAny _ A.in1 (specialOf (Value.ref a) (Str.ofString "__length_hint__") >>= _) _ _ _)
  refine wpAny_bind (wpAny_specialOf (isG _ rd1.1) PySem.F.gen_no_hint (wpAny_pure ?_))
  refine (?_ : wpAny _ A.in1 (rule "list.extend.makes-room" >>= fun _ => Builtin.List.listTouch (.ref s.heap.objs.size) >>= fun _ => again (.builtin "list.extend.loop" ⟨[.ref s.heap.objs.size, .ref a, .ref s.heap.objs.size], []⟩)) _ _ _)
  have L1 : (s.heap.push { cls := .type "list", data := .seq ([] : List Value).toArray }).get? s.heap.objs.size = some { cls := .type "list", data := .seq ([] : List Value).toArray } := Heap.get?_push_size _ rfl
  refine wpAny_bind (wpAny_rule (wpAny_bind ?_))
  refine (?_ : wpAny _ A.in1 (updateSeq s.heap.objs.size (·.push .none) >>= fun _ => updateSeq s.heap.objs.size (·.pop)) _ _ _)
  refine wpAny_bind (wpAny_updateSeq L1 rfl ?_)
  have L2' := Heap.get?_update_self (Obj.mapSeq (·.push Value.none)) L1 rfl
  refine wpAny_updateSeq L2' rfl ?_
  have L3 := Heap.get?_update_self (Obj.mapSeq (·.pop)) L2' rfl
  have oth : ∀ b o, b ≠ s.heap.objs.size → (s.heap.push { cls := .type "list", data := .seq ([] : List Value).toArray }).get? b = some o →
      (((s.heap.push { cls := .type "list", data := .seq ([] : List Value).toArray }).update s.heap.objs.size (Obj.mapSeq (·.push Value.none))).update s.heap.objs.size (Obj.mapSeq (·.pop))).get? b = some o :=
    fun b o hb z => (Heap.get?_update_other _ _ (Ne.symm hb)).trans ((Heap.get?_update_other _ _ (Ne.symm hb)).trans z)
  have old0 : ∀ b o, s.heap.get? b = some o → (((s.heap.push { cls := .type "list", data := .seq ([] : List Value).toArray }).update s.heap.objs.size (Obj.mapSeq (·.push Value.none))).update s.heap.objs.size (Obj.mapSeq (·.pop))).get? b = some o :=
    fun b o z => oth b o (fun y => Nat.lt_irrefl _ (y ▸ Heap.lt_size z)) (Heap.get?_push_of_some _ z)
  refine wpAny_pure ⟨plainId_quiet PySem.F.plain_extend_loop _, bring_extend T few Sa SC Sf _ _ 0 _ _ _ [] rfl (Nat.zero_le _)
    (rd1.keep (t := s.toks) T.cs fun b hb o z => oth b o (fun y => ?_) z) L3 ⟨rfl, rfl, fun k v ns h _ => by simp at h, List.nodup_nil, fun p hp => (List.not_mem_nil hp).elim⟩ (fun b o _ z => old0 b o z) fun s' acc c nss mv hS F => ?_⟩
  · rcases List.mem_cons.mp hb with x | x
    · exact Sa (y.symm.trans x)
    · rcases List.mem_cons.mp x with x | x
      · exact SC (y.symm.trans x)
      · exact Sf (y ▸ x)
  · refine (?_ : wpAny _ A (load s.heap.objs.size >>= _) _ _ s')
    refine wpAny_bind (wpAny_load hS (wpAny_pure (q s' acc nss ?_ ⟨F.size, F.len, F.each, F.nd, fun p hp => let ⟨z1, z2, z3⟩ := F.there p hp; ⟨fun y => z1 (List.mem_cons_of_mem _ y), z2, z3⟩⟩)))
    exact Moved.drop_new (o := { cls := .type "list", data := .seq ([] : List Value).toArray }) (tk := s.toks) (Moved.trans gt ((Moved.refl fun _ => .inl rfl).then_heap (by first | exact Nat.le_refl _ | exact Nat.le_succ _ | omega) fun b o hb z => oth b o (fun y => hb (y ▸ List.mem_cons_self)) z) mv) (Nat.le_refl _)
theorem bring_new {Q : Value → Shared → Prop} (T : Apart A.in1.in1.in1 a C fp wr) (rd : Ready P w A.in1.in1.in1 a g C fp wr pz n B 0 s) (few : (passing pz n 0).length ≤ sizeLine) (al : a < s.heap.objs.size) (Cl : C < s.heap.objs.size) (fl : ∀ b ∈ fp, b < s.heap.objs.size)
    (q : ∀ s' acc nss, Moved (C :: wr) (GenOnlyQ g) s s' → Sofar pz n B (C :: wr) s.heap (passing pz n 0).length acc nss s' → Q (.ref s'.heap.objs.size) { s' with heap := s'.heap.push { cls := .type "tuple", data := .seq acc } }) :
    codeAny (model P w) A (.call (.builtin "tuple.__new__") ⟨[.type "tuple", .ref a], []⟩) (wants Q E) s := by
  refine codeAny_of_tree ?_
  refine (?_ : wpAny _ A.in1 (do checkBuiltinCall "tuple.__new__" ⟨[.type "tuple", .ref a], []⟩; again (.builtin "tuple.__new__" ⟨[.type "tuple", .ref a], []⟩)) _ _ s)
  refine wpAny_bind (wpAny_of_eq (PySem.F.newCall_tuple_1 _) (wpAny_pure ⟨plainId_quiet PySem.F.plain_tuple_new _, codeAny_builtin PySem.F.entry_tuple_new ?_⟩))
  rw [Around.under_plainId PySem.F.plain_tuple_new _]
  have ⟨k1, k2, k3, k4⟩ := And.intro sub_tuple_self (And.intro init_tuple_lookup (And.intro madeHere_tuple rd.1.typeIs))
  wp_walk using wpAny_typeOf k4, bring_collect T rd few al Cl fl
  intro s' acc nss mv F
  refine (?_ : wpAny _ A.in1 (Builtin.Tuple.tupleExact acc.toList.toArray >>= fun v => ret v) _ _ _)
  unfold Builtin.Tuple.tupleExact
  have sz : acc.toList.toArray.size ≤ sizeLine := by simp only [Array.toArray_toList]; rw [F.size]; exact few
  refine wpAny_bind (wpAny_newObj_type (wpAny_pure ?_) sz)
  rw [show acc.toList.toArray = acc by simp]
  exact q s' acc nss mv F
theorem bring_tuple {Q : Value → Shared → Prop} (T : Apart A.in1.in1.in1.in1 a C fp wr) (rd : Ready P w A.in1.in1.in1.in1 a g C fp wr pz n B 0 s) (few : (passing pz n 0).length ≤ sizeLine) (al : a < s.heap.objs.size) (Cl : C < s.heap.objs.size) (fl : ∀ b ∈ fp, b < s.heap.objs.size)
    (q : ∀ s' acc nss, Moved (C :: wr) (GenOnlyQ g) s s' → Sofar pz n B (C :: wr) s.heap (passing pz n 0).length acc nss s' → Q (.ref s'.heap.objs.size) { s' with heap := s'.heap.push { cls := .type "tuple", data := .seq acc } }) :
    wpAny (model P w) A (call (.type "tuple") [.ref a]) Q E s := by
  refine callType_codes (Q₁ := fun obj s1 => s1.TypeIs obj "tuple" ∧ Q obj s1) PySem.F.called_tuple (PySem.F.typeCall_tuple_1 _) PySem.F.entry_object_init (bring_new T rd few al Cl fl fun s' acc nss mv F => ⟨⟨_, Heap.get?_push_size _ rfl, rfl⟩, q s' acc nss mv F⟩) fun obj s1 z => ⟨z.1, PySem.F.args_object_init_2 obj _, ?_⟩
  exact object_init_meets PySem.F.called_tuple.init.lookup PySem.F.called_tuple.made (by decide) P w A.in1 _ s1 ⟨z.1, rfl, z.2⟩
end
/-! ### such an expression over a tuple or a range, in a def's body: tuple(.. for x in ..) told as data -/
section
variable {P : Program} {w : World} {A : Around} {elt iter : Expr} {x : Str} {px pos : Pos} {ifs : List Expr} {scope : Scope} {I a : Addr} {g : Nat} {fp wr : List Addr} {n : Nat} {It : Nat → Value → Prop} {St : Nat → Heap → Prop} {env : Env} {pz : Nat → Bool} {B : Bring}
theorem Ready.fresh {s : Shared} {m : Str → Option Value} (calm : A.handled = none) (W : ∀ A' : Around, A'.handled = none → Walks P w A' I fp wr n It St) (live : ∀ i h, St i h → ∀ b ∈ wr, ∃ o, h.get? b = some o) (hx : env.kindOf x = some .local)
    (hk : (env.scope.kind == .class || (env.scope.kind == .module && env.locals != env.globals)) = false) (co : env.scope.isCoroutine = false) (out : env.locals ∉ fp) (M : Makes P w env x ifs elt fp wr It pz B s.heap) (isg : s.heap.IsGen a g)
    (hg : s.gens[g]? = some (.fresh (.compStart (.GeneratorExp elt [⟨.Name x px, iter, ifs, 0⟩] scope pos) 0 (.ref I) .none env))) (st : St 0 s.heap) (ns : s.heap.Ns env.locals m) (lim : s.heap.NoLimit) : Ready P w A a g env.locals fp wr pz n B 0 s := by
  refine ⟨isg, lim, _, hg, fun z hz => ⟨rfl, ?_⟩⟩
  have st' : St 0 z.heap := (W A calm).frame _ _ _ st fun b hb o e => hz b (List.mem_cons_of_mem _ hb) o e
  have ns' := ns.at' fun o e => hz _ (List.mem_cons_self ..) o e
  have calm2 : (A.in1.over (.compStart (.GeneratorExp elt [⟨.Name x px, iter, ifs, 0⟩] scope pos) 0 (.ref I) .none env) []).handled = none := calm
  have lp := bring_loop (iter := iter) (px := px) (scope := scope) (pos := pos) (A := A.in1) calm W live hx hk co out M n 0 z z m (Nat.sub_zero _) (Nat.zero_le _) st' ns' (GenSince.refl _ _ _) fun b hb _ o e => hz b (List.mem_cons_of_mem _ hb) o e
  refine (?_ : Seg _ A.in1 _ _ _ z _ ((compStart (.GeneratorExp elt [⟨.Name x px, iter, ifs, 0⟩] scope pos) 0 (.ref I) .none env).onRaise (leaving env)) [] z)
  unfold compStart
  rw [Sem.onRaise_eq_wrap]
  refine (?_ : Seg _ A.in1 _ _ _ z _ ((ask >>= _).wrap _ _ _ _) [] z)
  refine seg_bind_wrap (wpAny_askSetting ?_)
  split
  · exact seg_again rfl lp
  · first
      | exact seg_bind_wrap (wpAny_rule (seg_bind_wrap (wpAny_standAt (seg_bind_wrap ((W _ calm2).self 0 z _ _ st' (seg_again rfl lp))))))
      | (refine seg_bind_wrap (wpAny_rule ?_); refine (?_ : Seg _ A.in1 _ _ _ z _ ((standAt iter.pos >>= _).wrap _ _ _ _) [] z); exact seg_bind_wrap (wpAny_standAt (seg_bind_wrap ((W _ calm2).self 0 z _ _ st' (seg_again rfl lp)))))
end
/-- the heap with these tuples -/
def tupsAt : List (Addr × List V) → Hp → Hp
  | [], H => H
  | p :: L, H => upd (tupsAt L H) p.1 (.tup p.2)
theorem tupsAt_out {b : Addr} {H : Hp} : ∀ {L : List (Addr × List V)}, b ∉ L.map Prod.fst → tupsAt L H b = H b
  | [], _ => rfl
  | p :: L, h => by
    rw [List.map_cons, List.mem_cons, not_or] at h
    exact (upd_ne h.1).trans (tupsAt_out h.2)
theorem tupsAt_in {H : Hp} : ∀ {L : List (Addr × List V)}, (L.map Prod.fst).Nodup → ∀ p ∈ L, tupsAt L H p.1 = some (.tup p.2)
  | [], _, p, h => (List.not_mem_nil h).elim
  | r :: L, nd, p, h => by
    rw [List.map_cons, List.nodup_cons] at nd
    rcases List.mem_cons.mp h with e | e
    · rw [e]; exact upd_same
    · have ne : p.1 ≠ r.1 := fun z => nd.1 (z ▸ List.mem_map_of_mem e)
      exact (upd_ne ne).trans (tupsAt_in nd.2 p e)
theorem tupsAt_cases {b : Addr} {H : Hp} : ∀ {L : List (Addr × List V)}, b ∈ L.map Prod.fst → ∃ xs, (b, xs) ∈ L ∧ tupsAt L H b = some (.tup xs)
  | [], h => (List.not_mem_nil h).elim
  | p :: L, h => by
    by_cases e : b = p.1
    · exact ⟨p.2, by rw [e]; exact List.mem_cons_self, by rw [e]; exact upd_same⟩
    · obtain ⟨xs, h1, h2⟩ := tupsAt_cases (H := H) ((List.mem_cons.mp h).resolve_left e)
      exact ⟨xs, List.mem_cons_of_mem _ h1, (upd_ne e).trans h2⟩
section
variable {X : Cx} {pins : List (Addr × Obj)} {σ : L2.St} {H G : Hp} {s s' : Shared} {L : List (Addr × List V)}
theorem Inv.more (I : Inv X pins σ H s) (J : Inv X pins σ G s') (new : ∀ b ∈ L.map Prod.fst, s.heap.get? b = none ∧ G b = none) (ok : ∀ p ∈ L, p.2.length ≤ sizeLine ∧ ∃ its : List Value, Vals p.2 its ∧ IsTup s'.heap p.1 its.toArray) : Inv X pins σ (tupsAt L G) s' := by
  have old : ∀ {b o}, s.heap.get? b = some o → b ∉ L.map Prod.fst := fun e z => by rw [(new _ z).1] at e; cases e
  have held : ∀ {b o}, G b = some o → b ∉ L.map Prod.fst := fun e z => by rw [(new _ z).2] at e; cases e
  refine { J with base := ⟨J.base.keep, J.base.slot, fun b o e n hx => ?_, J.base.there, fun b xs e => ?_, fun b o u e => ?_, fun b ps e => ?_⟩, free := ?_, freeC := fun y c e => ?_, pin := fun p hp => ?_, hok := fun b o e => ?_ }
  · obtain ⟨o', e'⟩ := I.base.there b o e hx
    rw [tupsAt_out (old e')]
    exact J.base.free b o e n hx
  · have q := J.base.tups b xs e
    rw [tupsAt_out (held q)]; exact q
  · have q := J.base.frzs b o u e
    rw [tupsAt_out (held q)]; exact q
  · obtain ⟨mo, q⟩ := J.base.tbls b ps e
    exact ⟨mo, by rw [tupsAt_out (held q)]; exact q⟩
  · obtain ⟨m, ⟨ob, es, ep, ho, _⟩, _⟩ := I.loc
    rw [tupsAt_out (old ho)]
    exact J.free
  · obtain ⟨v, ob, ho, _⟩ := I.cell y c e
    rw [tupsAt_out (old ho)]
    exact J.freeC y c e
  · obtain ⟨q1, q2, q3⟩ := J.pin p hp
    exact ⟨q1, by rw [tupsAt_out (old (I.pin p hp).1)]; exact q2, q3⟩
  · by_cases hb : b ∈ L.map Prod.fst
    · obtain ⟨xs, h1, h2⟩ := tupsAt_cases (H := G) hb
      rw [h2] at e
      cases e
      exact ok _ h1
    · rw [tupsAt_out hb] at e
      exact (J.hok b o e).stay (fun _ _ _ q => q) (fun c q => by rw [tupsAt_out (held q)]; exact q) fun c xs q => by rw [tupsAt_out (held q)]; exact q
end
theorem dpAll_of_get {K : PySem.W.Frag} {H : Hp} : ∀ {vs : List V} {ds : List PyData}, vs.length = ds.length → (∀ (k : Nat) v d, vs[k]? = some v → ds[k]? = some d → Dp K H v d) → DpAll K H vs ds
  | [], [], _, _ => .nil
  | [], _ :: _, h, _ => by simp at h
  | _ :: _, [], h, _ => by simp at h
  | v :: vs, d :: ds, h, q => .cons (q 0 v d rfl rfl) (dpAll_of_get (by simpa using h) fun k u e h1 h2 => q (k + 1) u e h1 h2)
/-- one new tuple, told as an object of the model and as what is tracked -/
def TupNew (p : Addr × List V) (r : Addr × Obj) : Prop := r.1 = p.1 ∧ p.2.length ≤ sizeLine ∧ ∃ us : List Value, Vals p.2 us ∧ r.2.cls = .type "tuple" ∧ ∃ n, r.2.data = .seq us.toArray n
/-- a place's item is a new tuple that is such data -/
def BringD (K : PySem.W.Frag) (f : Nat → PyData) (H1 : Hp) : Bring := fun i y news => ∃ (q : Addr) (L : List (Addr × List V)), y = .ref q ∧ Paired TupNew L news ∧ ∀ H2 : Hp, Grow H1 H2 → (∀ p ∈ L, H2 p.1 = some (.tup p.2)) → Dp K H2 (.ref q) (f i)
theorem paired_fst {L : List (Addr × List V)} {news : List (Addr × Obj)} (h : Paired TupNew L news) : L.map Prod.fst = news.map Prod.fst := by
  induction h with
  | nil => rfl
  | cons a _ ih => rw [List.map_cons, List.map_cons, ih, a.1]
theorem paired_mem {L : List (Addr × List V)} {news : List (Addr × Obj)} (h : Paired TupNew L news) : ∀ p ∈ L, ∃ r ∈ news, TupNew p r := by
  induction h with
  | nil => exact fun p z => (List.not_mem_nil z).elim
  | cons a _ ih => exact fun p z => (List.mem_cons.mp z).elim (fun e => ⟨_, List.mem_cons_self, e ▸ a⟩) fun e => let ⟨r, h1, h2⟩ := ih p e; ⟨r, List.mem_cons_of_mem _ h1, h2⟩
theorem paired_app {L L' : List (Addr × List V)} {m m' : List (Addr × Obj)} (h : Paired TupNew L m) (h' : Paired TupNew L' m') : Paired TupNew (L ++ L') (m ++ m') := by
  induction h with
  | nil => exact h'
  | cons a _ ih => exact .cons a ih
/-- all that was brought, as what is to be tracked -/
theorem bring_all {K : PySem.W.Frag} {f : Nat → PyData} {H1 : Hp} : ∀ (acc : List Value) (nss : List (List (Addr × Obj))) (ix : List Nat), acc.length = ix.length → nss.length = ix.length → (∀ (k : Nat) v news, acc[k]? = some v → nss[k]? = some news → ∃ i, ix[k]? = some i ∧ BringD K f H1 i v news) →
    ∃ (vs : List V) (L : List (Addr × List V)), Vals vs acc ∧ Paired TupNew L nss.flatten ∧ ∀ H2 : Hp, Grow H1 H2 → (∀ p ∈ L, H2 p.1 = some (.tup p.2)) → DpAll K H2 vs (ix.map f)
  | [], [], [], _, _, _ => ⟨[], [], .nil, .nil, fun _ _ _ => .nil⟩
  | v :: acc, ns :: nss, i :: ix, h1, h2, h => by
    obtain ⟨vs, L, r1, r2, r3⟩ := bring_all acc nss ix (by simpa using h1) (by simpa using h2) fun k u m e1 e2 => h (k + 1) u m e1 e2
    obtain ⟨i', e, q, L0, rfl, r4, r5⟩ := h 0 v ns rfl rfl
    cases e
    refine ⟨.ref q :: vs, L0 ++ L, .cons rfl r1, ?_, fun H2 g hp => .cons (r5 H2 g fun p z => hp p (List.mem_append_left _ z)) (r3 H2 g fun p z => hp p (List.mem_append_right _ z))⟩
    rw [List.flatten_cons]
    exact paired_app r4 r2
  | [], _ :: _, [], _, h2, _ => by simp at h2
  | _ :: _, _, [], h1, _, _ => by simp at h1
  | [], _, _ :: _, h1, _, _ => by simp at h1
  | _ :: _, [], _ :: _, _, h2, _ => by simp at h2
/-! ### the rule -/
def OverOk (X : Cx) (u : Value) (s1 : Shared) (n : Nat) (It : Nat → Value → Prop) (T : Addr) : Prop :=
  ∃ (ob : Obj) (fp0 : List Addr) (St : Nat → Heap → Prop), (∀ (Q : Value → Shared → Prop) (E : Value → Shared → Prop), Q (.ref s1.heap.objs.size) { s1 with heap := s1.heap.push ob } → wpAny (model X.prog X.w) X.A (pyIter u) Q E s1) ∧
    (∀ A' : Around, A'.handled = none → Walks X.prog X.w A' s1.heap.objs.size fp0 [s1.heap.objs.size] n It St) ∧ (∀ b ∈ fp0, b ≤ s1.heap.objs.size) ∧
    (∀ h' : Heap, (∀ b o, b ≠ T → (s1.heap.push ob).get? b = some o → h'.get? b = some o) → St 0 h') ∧ ∀ i h, St i h → ∃ o, h.get? s1.heap.objs.size = some o
/-- the tests and the element, wherever the expression's own frame stands -/
def MakeOk (X : Cx) (scope : Scope) (x : Str) (ifs : List Expr) (elt : Expr) (It : Nat → Value → Prop) (n : Nat) (pz : Nat → Bool) (B : Bring) (T : Addr) (s1 : Shared) : Prop :=
  ∀ (env : Env) (A' : Around) (E' : Value → Shared → Prop) (i : Nat) (v : Value) (s2 : Shared) (m2 : Str → Option Value), It i v → env.scope = scope → env.cells = cloFrom X.env.cells scope.names [] → A'.handled = none →
    s2.heap.Ns env.locals m2 → m2 x = some v → (∀ b o, b ≠ T → s1.heap.get? b = some o → s2.heap.get? b = some o) →
      wpAny (model X.prog X.w) A' (forIn ifs true fun c r => if r = true then do let ok ← isTrue c env (eval c env); pure (ForInStep.yield ok) else pure (ForInStep.yield r)) (fun ok s3 => ok = pz i ∧ PySem.Keeps s2 s3) E' s2 ∧
      (pz i = true → wpAny (model X.prog X.w) A' (eval elt env) (fun y s3 => (∃ news, B i y news ∧ (news.map Prod.fst).Nodup ∧ ∀ p ∈ news, s2.heap.get? p.1 = none ∧ s3.heap.get? p.1 = some p.2) ∧ PySem.Keeps s2 s3) E' s2)
def tTupO (X : Cx) (T : Addr) (scope : Scope) (x : Str) (ifs : List Expr) (elt : Expr) (te : TE) : TE := fun σ H Q => te σ H fun v H1 => ∃ (n : Nat) (It : Nat → Value → Prop) (pz : Nat → Bool) (f : Nat → PyData), n ≤ sizeLine ∧ GxR.TabG H1 T ∧
  (∀ pins s1 u, Inv X pins σ H1 s1 → RelV v u → OverOk X u s1 n It T ∧ MakeOk X scope x ifs elt It n pz (BringD X.K f H1) T s1) ∧
  ∀ (t : Addr) (vs : List V) (H2 : Hp), Grow H1 H2 → H1 t = none → H2 t = some (.tup vs) → DpAll X.K H2 vs (((List.range n).filter pz).map f) → Q (.ref t) H2
theorem tup_grow {P : Addr} {H1 : Hp} {q : Array Value} {L : List (Addr × List V)} (hP : ∃ ps, H1 P = some (.tbl ps) ∧ (TriplesOk ps.toList → TriplesOk q.toList)) (new : ∀ b ∈ L.map Prod.fst, H1 b = none) : Grow H1 (tupsAt L (upd H1 P (.tbl q))) := by
  obtain ⟨ps, hP, ht⟩ := hP
  have nP : P ∉ L.map Prod.fst := fun z => by rw [new P z] at hP; cases hP
  refine ⟨fun b o e => ?_, fun b r e => ?_⟩
  · obtain ⟨e1, e2⟩ := offT_some e
    have bP : b ≠ P := fun z => by rw [z, hP] at e1; cases e1; exact e2 _ rfl
    have nb : b ∉ L.map Prod.fst := fun z => by rw [new b z] at e1; cases e1
    exact offT_at (by rw [tupsAt_out nb, upd_ne bP]; exact e1) e2
  · by_cases bP : b = P
    · rw [bP, hP] at e
      cases e
      exact ⟨q, by rw [bP, tupsAt_out nP]; exact upd_same, ht⟩
    · have nb : b ∉ L.map Prod.fst := fun z => by rw [new b z] at e; cases e
      exact ⟨r, by rw [tupsAt_out nb, upd_ne bP]; exact e, id⟩
theorem objOk_there {P : Program} {w : World} {H : Hp} {h : Heap} {a : Addr} {o : HO} (x : ObjOk P w H h a o) : ∃ u, h.get? a = some u := by
  cases o with
  | lst xs => obtain ⟨_, _, _, _, e⟩ := x; exact ⟨_, e⟩
  | tup xs => obtain ⟨_, _, _, _, e, _⟩ := x; exact ⟨_, e⟩
  | dK kvs => obtain ⟨_, _, _, _, _, _, _, e, _⟩ := x; exact ⟨_, e⟩
  | dT kvs => obtain ⟨_, _, _, _, _, _, _, e, _⟩ := x; exact ⟨_, e⟩
  | set S n => obtain ⟨_, _, _, _, e, _⟩ := x; exact ⟨_, e⟩
  | ins C dx fs => obtain ⟨_, _, _, e, _⟩ := x; exact ⟨_, e⟩
  | own y => exact x
  | xd fs => obtain ⟨_, ⟨_, _, _, e, _⟩, _⟩ := x; exact ⟨_, e⟩
  | rng lo hi => obtain ⟨_, _, _, e⟩ := x; exact ⟨_, e⟩
  | frz ob u => exact ⟨_, x.1⟩
  | tbl ps => exact ⟨_, x⟩
  | met f y => exact ⟨_, x⟩
  | ext φ => exact x.2.1
section
variable {X : Cx}
theorem pe_tupO {c T : Addr} {elt iter : Expr} {ifs : List Expr} {x : Str} {px p pos gpos : Pos} {scope : Scope} {te : TE} {k : Nat}
    (hr : Room k X.A) (hg : Gl X "tuple") (hm : X.mg "tuple" = none) (TB : GxR.TabB X.base X.mg c T) (hcode : X.env.code = .ref c) (S : GxR.GenS X.env scope x) (hi : PE X iter te) (hs : ∀ v, genFold iter X.env v = pure v)
    (hc : X.calm = true) (he : starEach [.GeneratorExp elt [⟨.Name x px, iter, ifs, 0⟩] scope gpos] X.env = (false, eval (.GeneratorExp elt [⟨.Name x px, iter, ifs, 0⟩] scope gpos) X.env) :: starEach [] X.env := by rfl) :
    PE X (.Call (.Name "tuple" p) [.GeneratorExp elt [⟨.Name x px, iter, ifs, 0⟩] scope gpos] [] pos) (tTupO X T scope x ifs elt te) := by
  refine ⟨fun pins s σ H Q I h => ?_⟩
  refine wpAny_Call_Name_kw (ld_blt I hg hm (show bootBuiltins "tuple" = some (.type "tuple") by decide +kernel) (PyProof.Rows.callWith_type1 ?_ he (by rfl)))
  rw [he]
  refine (?_ : wpAny _ _ (spliced ((false, eval (.GeneratorExp elt [⟨.Name x px, iter, ifs, 0⟩] scope gpos) X.env) :: backTo pos (starEach [] X.env))) _ _ s)
  have calm := I.ok.hd hc
  refine Calls.spliced_cons (wpAny_GeneratorExp_make S.co (closure_ok S.free) S.cell S.dot S.kind (by have := hr.dp; omega) ?_ hs)
  refine thn (hi.run pins s σ H _ I h) fun xv s1 ⟨v, H1, I1, r1, n, It, pz, f, hz, ⟨ps, hP, ht⟩, hO, q⟩ => ?_
  obtain ⟨⟨ob, fp0, St, itr, W, fpl, st0, live⟩, MO⟩ := hO pins s1 xv I1 r1
  refine itr _ _ ?_
  have gP : s1.heap.get? T = some { cls := .none, data := .fields ps } := I1.hok T _ hP
  have Plt : T < s1.heap.objs.size := Heap.lt_size gP
  have gP2 : (s1.heap.push ob).get? T = some { cls := .none, data := .fields ps } := Heap.get?_push_of_some _ gP
  have cd : PySem.W.CodeHd (s1.heap.push ob) c T := TB.code.keeps fun b u e => Heap.get?_push_of_some _ (I1.bk b u e)
  have lim2 : (s1.heap.push ob).NoLimit := I1.nolimit.push ob
  have sz2 : (s1.heap.push ob).objs.size = s1.heap.objs.size + 1 := Heap.size_push ..
  have main : ∀ (code : Value) (h3 : Heap) (tk : Nat) (qs : Array Value), Heap.ExtBut T (s1.heap.push ob) h3 → (s1.heap.push ob).objs.size ≤ h3.objs.size → h3.get? T = some { cls := .none, data := .fields qs } → (∃ more, qs = ps ++ more) → TriplesOk qs.toList →
      wpAny (model X.prog X.w) X.A (builtinsFor X.env.globals X.env.builtins) (fun bi s4 =>
        ∀ h', h'.Ns s4.heap.objs.size (fun y => if y = ".0" then some (Value.ref s1.heap.objs.size) else none) → Heap.SameBut s4.heap.objs.size (s4.heap.push { cls := .type "frame", data := .dict #[] }) h' →
          wpAny (model X.prog X.w) X.A (spliced (backTo pos (starEach [] X.env))) (fun a_1 s' => wpAny (model X.prog X.w) X.A (call (.type "tuple") (.ref h'.objs.size :: a_1)) (EP X pins σ Q) X.xe s') X.xe
            { s4 with
              gens := s4.gens.push (.fresh (.compStart (.GeneratorExp elt [⟨.Name x px, iter, ifs, 0⟩] scope gpos) 0 (.ref s1.heap.objs.size) .none (genEnv scope (cloFrom X.env.cells scope.names []) s4.heap.objs.size code bi X.env))),
              toks := s4.toks + 1 + 1 + 1,
              heap := h'.push { cls := .type "generator", data := .fields #[.int s4.gens.size 0, .str "<genexpr>" (s4.toks + 1), .str (X.env.qual ++ "<genexpr>") (s4.toks + 1 + 1)] } }) X.xe { s1 with heap := h3, toks := tk } := by
    intro code h3 tk qs hx hsz gP3 hmore ht3
    obtain ⟨bm, bo, e1, e2, e3, e4, e5, e6, e7, e8⟩ := TB.bm
    have csP : cStatics ≠ T := fun e => by
      obtain ⟨_, hns, _⟩ := I1.nolimit
      obtain ⟨o', es, ep, ho, hd, _⟩ := hns
      rw [e, gP] at ho
      cases ho
      cases hd
    have cl : cStatics < s1.heap.objs.size := let ⟨_, hns, _⟩ := I1.nolimit; hns.lt
    have kp3 : ∀ b u, b ≠ T → s1.heap.get? b = some u → h3.get? b = some u := fun b u hb e => hx b u hb (Heap.get?_push_of_some _ e)
    refine wpAny_builtinsFor (m := X.mg) (by rw [I1.ok.glob]; exact ((I1.mod.glob.keeps I1.bk).push ob).extBut hx TB.gP) e1 e2 (kp3 _ _ e4 (I1.bk _ _ e5)) e6 e7 e8 ?_
    intro h' hn' hs'
    have hsz' : h'.objs.size = h3.objs.size + 1 := by rw [hs'.1, Heap.size_push]
    have keep' : ∀ b o, h3.get? b = some o → h'.get? b = some o := fun b o e => hs'.extBut b o (Nat.ne_of_lt (Heap.lt_size e)) (Heap.get?_push_of_some _ e)
    generalize hG : ({ cls := .type "generator", data := .fields #[.int s1.gens.size 0, .str "<genexpr>" (tk + 1), .str (X.env.qual ++ "<genexpr>") (tk + 1 + 1)] } : Obj) = go
    have keep5 : ∀ b o, h3.get? b = some o → (h'.push go).get? b = some o := fun b o e => Heap.get?_push_of_some _ (keep' b o e)
    have old5 : ∀ b o, b ≠ T → s1.heap.get? b = some o → (h'.push go).get? b = some o := fun b o hb e => keep5 b o (kp3 b o hb e)
    refine Calls.spliced_nil ?_
    have szS : s1.heap.objs.size < h3.objs.size := by omega
    have Ap : Apart X.A.in1.in1.in1.in1 h'.objs.size h3.objs.size (List.range h3.objs.size) [s1.heap.objs.size] :=
      ⟨calm, by rw [hsz']; exact Nat.succ_ne_self _, fun z => by have := List.mem_range.mp z; omega, fun b hb => by rw [List.mem_singleton.mp hb]; exact List.mem_range.mpr szS, (by have := hr.dp; show X.A.depth < recursionLimit; omega), List.mem_range.mpr (Nat.lt_trans cl szS), Nat.ne_of_lt (Nat.lt_trans cl szS), fun z => Nat.ne_of_lt cl (List.mem_singleton.mp z)⟩
    have Wf : ∀ A' : Around, A'.handled = none → Walks X.prog X.w A' s1.heap.objs.size (List.range h3.objs.size) [s1.heap.objs.size] n It St := fun A' hA => (W A' hA).mono_fp fun b hb => List.mem_range.mpr (Nat.lt_of_le_of_lt (fpl b hb) szS)
    have mk : ∀ bi : Addr, Makes X.prog X.w (genEnv scope (cloFrom X.env.cells scope.names []) h3.objs.size code bi X.env) x ifs elt (List.range h3.objs.size) [s1.heap.objs.size] It pz (BringD X.K f H1) (h'.push go) := fun bi => by
      have old : ∀ (s2 : Shared), (∀ b ∈ List.range h3.objs.size, b ∉ [s1.heap.objs.size] → ∀ o, (h'.push go).get? b = some o → s2.heap.get? b = some o) → ∀ b o, b ≠ T → s1.heap.get? b = some o → s2.heap.get? b = some o := fun s2 hk b o hb e => by
        have lt1 := Heap.lt_size e
        refine hk b (List.mem_range.mpr (Heap.lt_size (kp3 b o hb e))) (fun z => ?_) o (old5 b o hb e)
        rw [List.mem_singleton.mp z] at lt1
        exact Nat.lt_irrefl _ lt1
      refine ⟨⟨fun A' E' i v s2 m2 hA hv hns hm2 hk => (MO _ A' E' i v s2 m2 hv rfl rfl hA hns hm2 (old s2 hk)).1, fun A' E' i v s2 m2 hA hv hp hns hm2 hk => ?_⟩, fun A' E' i v s2 m2 hA hv hp hns hm2 hk => (MO _ A' E' i v s2 m2 hv rfl rfl hA hns hm2 (old s2 hk)).2 hp⟩
      exact wpAny_mono ((MO _ A' E' i v s2 m2 hv rfl rfl hA hns hm2 (old s2 hk)).2 hp) (fun y s3 z => ⟨trivial, z.2⟩) fun _ _ z => z
    have cs5 : (h'.push go).NoLimit := (lim2.extBut hx csP).keeps keep5
    have rd : ∀ bi : Addr, Ready X.prog X.w X.A.in1.in1.in1.in1 h'.objs.size s1.gens.size h3.objs.size (List.range h3.objs.size) [s1.heap.objs.size] pz n (BringD X.K f H1) 0 { s1 with gens := s1.gens.push (.fresh (.compStart (.GeneratorExp elt [⟨.Name x px, iter, ifs, 0⟩] scope gpos) 0 (.ref s1.heap.objs.size) .none (genEnv scope (cloFrom X.env.cells scope.names []) h3.objs.size code bi X.env))), toks := tk + 1 + 1 + 1, heap := h'.push go } := fun bi => by
      refine Ready.fresh (A := X.A.in1.in1.in1.in1) (env := genEnv scope (cloFrom X.env.cells scope.names []) h3.objs.size code bi X.env) (m := fun y => if y = ".0" then some (.ref s1.heap.objs.size) else none) calm Wf (fun i h st b hb => by rw [List.mem_singleton.mp hb]; exact live i h st) S.loc (by show (scope.kind == .class || (scope.kind == .module && _)) = false; rw [S.kind]; rfl) S.co (fun z => Nat.lt_irrefl _ (List.mem_range.mp z)) (mk bi) (by subst hG; exact ⟨_, _, _, Heap.get?_push_size _ rfl, rfl, rfl, rfl⟩) (Array.getElem?_push_size ..) (st0 _ fun b o hb e => keep5 b o (hx b o hb e)) (hn'.push _) cs5
    have few : (passing pz n 0).length ≤ sizeLine := by
      unfold passing
      exact Nat.le_trans (List.length_filter_le _ _) (by rw [List.drop_zero, List.length_range]; exact hz)
    have sz5 : (h'.push go).objs.size = h3.objs.size + 2 := by rw [Heap.size_push, hsz']
    refine bring_tuple Ap (rd _) few (by show h'.objs.size < (h'.push go).objs.size; omega) (by show h3.objs.size < (h'.push go).objs.size; omega) (fun b hb => Nat.lt_trans (List.mem_range.mp hb) (by show h3.objs.size < (h'.push go).objs.size; omega)) fun s' acc nss mv F => ?_
    obtain ⟨more, em⟩ := hmore
    have nw : ∀ b u, s1.heap.get? b = some u → b ∉ h3.objs.size :: [s1.heap.objs.size] := fun b u e hb => by
      have hl := Heap.lt_size e
      rcases List.mem_cons.mp hb with z | z
      · rw [z] at hl
        exact Nat.lt_asymm szS hl
      · rw [List.mem_singleton.mp z] at hl
        exact Nat.lt_irrefl _ hl
    have kept : ∀ b u, b ≠ T → s1.heap.get? b = some u → s'.heap.get? b = some u := fun b u hb e => mv.heap b u (nw b u e) (old5 b u hb e)
    have J := GxR.inv_tab (more := more) (h' := s'.heap) (g' := s'.gens) (d' := s'.drawn) (t' := s'.toks) I1 hP kept (by rw [← em]; exact mv.heap T _ (nw T _ gP) (keep5 T _ gP3)) (AllBare.movedS (I1.bare.push rfl) mv)
    rw [GxR.sh_eta s1 s' mv.os] at J
    have len0 : passing pz n 0 = (List.range n).filter pz := by unfold passing; rw [List.drop_zero]
    obtain ⟨vs, L, v1, v2, v3⟩ := bring_all (K := X.K) (f := f) (H1 := H1) acc.toList nss (passing pz n 0) (by rw [Array.length_toList, F.size]) F.len fun k v news h1 h2 => F.each k v news (by simpa using h1) h2
    have fst := paired_fst v2
    have none1 : ∀ b ∈ L.map Prod.fst, s1.heap.get? b = none := fun b hb => by
      rw [fst] at hb
      obtain ⟨p, hp, rfl⟩ := List.mem_map.mp hb
      cases e : s1.heap.get? p.1 with
      | none => rfl
      | some u =>
        have z := (F.there p hp).2.1
        by_cases hT : p.1 = T
        · rw [hT] at z
          exact absurd ((keep5 T _ gP3).symm.trans z) (by simp)
        · exact absurd ((old5 _ _ hT e).symm.trans z) (by simp)
    have free1 : ∀ b ∈ L.map Prod.fst, H1 b = none := fun b hb => by
      cases e : H1 b with
      | none => rfl
      | some o =>
        obtain ⟨u, hu⟩ := objOk_there (I1.hok b o e)
        exact absurd (hu.symm.trans (none1 b hb)) (by simp)
    have neT : ∀ b ∈ L.map Prod.fst, b ≠ T := fun b hb z => by
      have y := none1 b hb
      rw [z, gP] at y
      cases y
    have J2 := Inv.more I1 J (fun b hb => ⟨none1 b hb, by rw [upd_ne (neT b hb)]; exact free1 b hb⟩) fun p hp => by
      obtain ⟨r, hr', t1, t2, us, t3, t4, m, t5⟩ := paired_mem v2 p hp
      refine ⟨t2, us, t3, r.2, ?_, t4, m, t5⟩
      rw [← t1]
      exact (F.there r hr').2.2
    have gr : Grow H1 (tupsAt L (upd H1 T (.tbl (ps ++ more)))) := tup_grow ⟨ps, hP, fun _ => by rw [← em]; exact ht3⟩ free1
    have fresh2 := J2.hok.fresh (Nat.le_refl s'.heap.objs.size)
    have vl : vs.length = acc.size := by rw [v1.length, Array.length_toList]
    have g2 : Grow H1 (upd (tupsAt L (upd H1 T (.tbl (ps ++ more)))) s'.heap.objs.size (.tup vs)) := gr.trans (Grow.new fresh2)
    refine ⟨.ref _, _, J2.laid (t' := s'.toks) (o := .tup vs) (fun b o' z => Heap.get?_push_of_some _ z) (Nat.le_refl _) ⟨by rw [vl, F.size]; exact few, acc.toList, v1, _, Heap.get?_push_size _ rfl, rfl, _, rfl⟩, rfl, q _ vs _ g2 ?_ upd_same ?_⟩
    · cases e : H1 s'.heap.objs.size with
      | none => rfl
      | some o =>
        cases o with
        | tbl z =>
          obtain ⟨z', e', _⟩ := gr.t _ _ e
          exact absurd (e'.symm.trans fresh2) (by simp)
        | _ => exact absurd ((gr.at e).symm.trans fresh2) (by simp)
    · rw [← len0]
      refine v3 _ g2 fun p hp => ?_
      have hin : tupsAt L (upd H1 T (.tbl (ps ++ more))) p.1 = some (.tup p.2) := tupsAt_in (by rw [fst]; exact F.nd) p hp
      rw [upd_ne (ne_of_none hin fresh2)]
      exact hin
  refine ⟨lim2, ?_⟩
  cases hf : codeAmong gpos ps.toList with
  | none =>
    refine wpAny_genexprCodeX hcode (cd.code gP2 ht) (cd.tab gP2) hf fun c' h' tk hx hge hlt hco' _ htab' _ => ?_
    obtain ⟨_, _, _, _, _, _, _, _, _, _, _, _, _, _, _, _, _, _, _, htr, _⟩ := hco'
    exact main _ h' tk _ hx (Nat.le_trans hge (Nat.le_of_lt hlt)) htab'.2 ⟨_, rfl⟩ htr
  | some cv =>
    refine wpAny_genexprCode_hit hcode (cd.code gP2 ht) hf ?_
    exact main cv (s1.heap.push ob) s1.toks ps (Heap.ExtBut.refl _ _) (Nat.le_refl _) gP2 ⟨#[], by simp⟩ ht
end
/-! ### elements that make a pair -/
section
variable {P : Program} {w : World} {A : Around} {env : Env} {s : Shared} {a b : Expr} {pos : Pos} {k : Nat}
theorem gm_two {R1 R2 : Value → Prop} (ha : GV P w A env s a R1) (hb : GV P w A env s b R2) (st : starEach [a, b] env = (false, eval a env) :: (false, eval b env) :: starEach [] env := by rfl) (E : Value → Shared → Prop) :
    wpAny (model P w) A (eval (.Tuple [a, b] k pos) env) (fun y s3 => (∃ q u v, y = .ref q ∧ R1 u ∧ R2 v ∧ s.heap.get? q = none ∧ s3.heap.get? q = some { cls := .type "tuple", data := .seq [u, v].toArray }) ∧ PySem.Keeps s s3) E s := by
  refine wpAny_Tuple_spliced ?_
  rw [st]
  refine (?_ : wpAny _ _ (spliced ((false, eval a env) :: backTo pos ((false, eval b env) :: starEach [] env))) _ _ s)
  refine Calls.spliced_cons (wpAny_mono (ha E s (GxR.keeps_refl _)) (fun u s1 ⟨r1, k1⟩ => ?_) fun _ _ z => z)
  refine (?_ : wpAny _ _ (spliced ((false, eval b env) :: backTo pos (starEach [] env))) _ _ s1)
  refine Calls.spliced_cons (wpAny_mono (hb E s1 k1) (fun v s2 ⟨r2, k2⟩ => ?_) fun _ _ z => z)
  refine Calls.spliced_nil ⟨by show 2 ≤ sizeLine; decide, ⟨s2.heap.objs.size, u, v, rfl, r1, r2, ?_, Heap.get?_push_size _ rfl⟩, ?_⟩
  · cases e : s.heap.get? s2.heap.objs.size with
    | none => rfl
    | some o => exact absurd (Heap.lt_size (keepsH k2 _ _ e)) (Nat.lt_irrefl _)
  · obtain ⟨h, t, rfl, kk⟩ := k2
    exact ⟨_, t, rfl, fun c o e => Heap.get?_push_of_some _ (kk c o e)⟩
end
/-- over a tuple of numbers -/
theorem over_tup {X : Cx} {s1 : Shared} {a T : Addr} {its : List Value} {ps : Array Value} (calm : X.A.handled = none) (ht : IsTup s1.heap a its.toArray) (hT : s1.heap.get? T = some { cls := .none, data := .fields ps }) : OverOk X (.ref a) s1 its.length (fun i v => its[i]? = some v) T := by
  have al : a < s1.heap.objs.size := ht.lt
  have aT : a ≠ T := fun z => by
    obtain ⟨o, ho, _, n, hd⟩ := ht
    rw [z, hT] at ho
    cases ho
    cases hd
  have tT : s1.heap.objs.size ≠ T := fun z => Nat.lt_irrefl _ (z ▸ Heap.lt_size hT)
  have sz : its.toArray.size = its.length := List.size_toArray ..
  refine ⟨{ cls := .type "tuple_iterator", data := .fields #[.ref a, .int 0 0] }, [s1.heap.objs.size, a], fun i h => h.IsTupleIter s1.heap.objs.size a i ∧ h.IsTuple a its.toArray, fun Q E q => wpAny_pyIter_tuple (show s1.heap.IsTuple a its.toArray from ht) q, fun A' hA => ?_, fun b hb => ?_, fun h' k => ⟨?_, ?_⟩, fun i h st => ?_⟩
  · have W := Walks.tuple (prog := X.prog) (w := X.w) hA s1.heap.objs.size a (Nat.ne_of_lt al) its.toArray
    rw [sz] at W
    refine { W with item := fun i s Q E hi st hQ => W.item i s Q E hi st fun v h' tk hv => hQ v h' tk (by simpa using hv) }
  · rcases List.mem_cons.mp hb with z | z
    · exact Nat.le_of_eq z
    · rw [List.mem_singleton.mp z]; exact Nat.le_of_lt al
  · exact ⟨_, k _ _ tT (Heap.get?_push_size _ rfl), rfl, rfl⟩
  · obtain ⟨o, ho, r⟩ := ht
    exact ⟨o, k _ _ aT (Heap.get?_push_of_some _ ho), r⟩
  · obtain ⟨⟨o, ho, _⟩, _⟩ := st
    exact ⟨o, ho⟩
/-! ### enumerate over a tuple, from a number on -/
def IteT (K : PySem.W.Frag) (a : Addr) (c : Int) : It :=
  ⟨fun i H => ∃ (xs : List V) (x : V), SqT K H a xs ∧ xs[i]? = some x, fun i H v H' => ∃ T x, v = .ref T ∧ H T = none ∧ H' = upd H T (.tup [.int (c + (i : Int)), x]) ∧ ∀ xs, SqT K H a xs → xs[i]? = some x, fun i H => ∃ xs : List V, SqT K H a xs ∧ xs.length ≤ i⟩
theorem turn_enumT {P : Program} {w : World} {K : PySem.W.Frag} {elts : List Expr} {kk : Nat} {tpos : Pos} (a e it : Addr) (c : Int) :
    Turn P w K (.Tuple elts kk tpos) (IteT K a c) [e, it] e (fun i h => (∃ old, IsEnum h e it (c + (i : Int)) old) ∧ h.IsTupleIter it a i ∧ e ≠ it) where
  mem := by simp
  obj := fun i h st b hb => by
    obtain ⟨⟨old, he⟩, ⟨o, ho, hc, hd⟩, _⟩ := st
    rcases (by simpa using hb : b = e ∨ b = it) with z | z
    · rw [z]; exact ⟨_, he, fun v q => nomatch q⟩
    · rw [z]; exact ⟨o, ho, fun v q => by rw [hd] at q; cases q⟩
  keep := fun i h h' st k => let ⟨⟨old, he⟩, hi, ne⟩ := st; ⟨⟨old, k e (by simp) _ he⟩, hi.at fun o q => k it (by simp) o q, ne⟩
  item := by
    intro X hP hw hK hc i pins s σ H E I hf st hg
    subst hP hw hK
    obtain ⟨⟨old, he⟩, hit, ne⟩ := st
    obtain ⟨xs, x, hq, hx⟩ := hg
    obtain ⟨its, rv, p, hz⟩ := I.tuple hq
    obtain ⟨u, hu, ru⟩ := rv.get hx
    have el : e < s.heap.objs.size := Heap.lt_size he
    have il : it < s.heap.objs.size := by obtain ⟨_, q, _⟩ := hit; exact Heap.lt_size q
    have ai : a ≠ it := fun z => by
      obtain ⟨o1, q1, c1, _⟩ := hit
      obtain ⟨o2, q2, c2, _⟩ := p
      rw [z, q1] at q2
      cases q2
      rw [c1] at c2
      exact absurd c2 (by decide)
    have ae : a ≠ e := fun z => by
      obtain ⟨o2, q2, c2, _⟩ := p
      have q1 : s.heap.get? e = _ := he
      rw [z, q1] at q2
      cases q2
      exact absurd c2 (by show ¬ Value.type "enumerate" = Value.type "tuple"; decide)
    have D := Draws.tuple (prog := X.prog) (w := X.w) (A := X.A.in1) (I.ok.hd hc) it a ai its.toArray
    have isT : s.heap.IsTuple a its.toArray := p
    have lt : i < its.toArray.size := by rw [List.size_toArray]; exact (List.getElem?_eq_some_iff.mp hu).1
    refine wpAny_pyNext_enum_itemC D he ⟨hit, isT⟩ lt ne (by simp [ne, Ne.symm ae]) fun y h' tk hy ho st' hT hsz hk => ?_
    have ey : y = u := by
      have hy' : its.toArray[i]? = some y := hy
      rw [List.getElem?_toArray, hu] at hy'
      exact (Option.some.inj hy').symm
    subst ey
    refine ⟨_, rfl, wpAny_letOwnedTupleGo_enum (s := { s with heap := h', toks := tk + 1 }) ho fun h2 he2 sb => ?_⟩
    have hT2 : h2.get? s.heap.objs.size = some { cls := .type "tuple", data := .seq #[.int (c + (i : Int)) tk, y] } := (sb.2 _ (Nat.ne_of_gt el)).trans hT
    have new : ObjOk X.prog X.w (upd H s.heap.objs.size (.tup [.int (c + (i : Int)), x])) h2 s.heap.objs.size (.tup [.int (c + (i : Int)), x]) := ⟨by show 2 ≤ sizeLine; decide, [.int (c + (i : Int)) tk, y], .cons ⟨_, rfl⟩ (.cons ru .nil), ⟨_, hT2, rfl, _, rfl⟩⟩
    have I1 : Inv X pins σ (upd H s.heap.objs.size (.tup [.int (c + (i : Int)), x])) { s with heap := h2, toks := tk + 1 } :=
      I.turnedNew (ch := [e, it]) (fun b ob hb q => (sb.2 b (fun z => hb (by simp [z]))).trans (hk b ob (fun z => hb (by simp [z])) (fun z => hb (by simp [z])) q)) hf (Nat.le_refl _) new
    refine ⟨.ref s.heap.objs.size, _, I1, rfl, ⟨_, x, rfl, I.hok.fresh (Nat.le_refl _), rfl, fun ys hy2 => ?_⟩, ⟨⟨y, ?_⟩, st'.1.at fun o q => (sb.2 it (Ne.symm ne)).trans q, ne⟩, fun b hb => ?_⟩
    · rw [I.tuple_inj hy2 hq]; exact hx
    · rw [show c + ((i + 1 : Nat) : Int) = c + (i : Int) + 1 by omega]; exact he2
    · have hb' : b < s.heap.objs.size := by
        rcases (by simpa using hb : b = e ∨ b = it) with z | z
        · rw [z]; exact el
        · rw [z]; exact il
      rw [upd_ne (Nat.ne_of_lt hb')]
      exact (hf b hb).1
  done := by
    intro X hP hw hK hc i pins s σ H E I hf st hg
    subst hP hw hK
    obtain ⟨⟨old, he⟩, hit, ne⟩ := st
    obtain ⟨xs, hq, hx⟩ := hg
    obtain ⟨its, rv, p, hz⟩ := I.tuple hq
    obtain ⟨f0, f1, f2, f3, f4, f5⟩ := hf it (by simp)
    have hl := rv.length
    have isT : s.heap.IsTuple a its.toArray := p
    have D0 : Draws X.prog X.w X.A.in1 it [it, a] 0 (fun _ _ => False) (fun _ h => h.IsTupleIter it a i ∧ h.IsTuple a its.toArray) :=
      ⟨fun _ _ st => let ⟨o, ho, _⟩ := st.1; ⟨o, ho⟩, fun _ _ _ st k => ⟨st.1.at fun o q => k it (by simp) o q, st.2.at fun o q => k a (by simp) o q⟩, fun j s Q E lt => absurd lt (Nat.not_lt_zero j), fun s Q E st q => wpAny_nextOf_tuple_end (I.ok.hd hc) st.1 st.2 (by rw [List.getElem?_toArray]; exact List.getElem?_eq_none (by omega)) q⟩
    exact wpAny_pyNext_enum_endD D0 he ⟨hit, isT⟩ fun h' eb => ⟨rfl, I.turned (t' := s.toks) (fun b o hb q => eb b o hb q) f0 f1 f3 f4 f5⟩
  self := fun A i s Q E st h => let ⟨⟨_, he⟩, _⟩ := st; wpAny_pyIter_enum he h
/-- enumerate(v): its two new cells -/
theorem meets_enum1 {v : Value} {o : Obj} {Hh : Heap → Prop} (B : Begins v o Hh) :
    Meets (Builtin.«enumerate.__new__» ⟨[.type "enumerate", v], []⟩) (fun _ R s => Hh s.heap ∧ R (.ok (.ret (.ref (s.heap.push o).objs.size))) { s with heap := (s.heap.push o).push { cls := .type "enumerate", data := .fields #[.none, .bool false, .ref s.heap.objs.size, rawInt 0, .none, .none] } }) :=
  .of_wp fun prog w A R s h => by
    obtain ⟨hp, g, d, tk, os⟩ := s
    obtain ⟨h1, h⟩ := h
    have sub := sub_enumerate
    have q1 : ∀ {A' : Around} {E : Value → Shared → Prop} {Q : Value → Shared → Prop}, Q (.ref hp.objs.size) ⟨hp.push o, g, d, tk, os⟩ → wpAny (model prog w) A' (pyIter v) Q E ⟨hp, g, d, tk, os⟩ := fun q => B.iter prog w _ _ ⟨hp, g, d, tk, os⟩ _ h1 q
    wp_walk using q1
    refine wpAny_stack_any fun st => wpAny_pure ?_
    split
    · rename_i c _ _ _ _ _
      cases (c == Value.type "enumerate") <;> (wp_walk using q1; exact ⟨_, rfl, h⟩)
    · wp_walk using q1
      exact ⟨_, rfl, h⟩
theorem enum_begins1 {prog : Program} {w : World} {A : Around} {E : Value → Shared → Prop} {s : Shared} {v : Value} {o : Obj} {Hh : Heap → Prop} {Q : Value → Shared → Prop} (B : Begins v o Hh) (h1 : Hh s.heap)
    (h : ∀ h', IsEnum h' (s.heap.objs.size + 1) s.heap.objs.size 0 .none → h'.get? s.heap.objs.size = some o → h'.objs.size = s.heap.objs.size + 2 → (∀ b o, s.heap.get? b = some o → h'.get? b = some o) → Q (.ref (s.heap.objs.size + 1)) { s with heap := h' }) :
    wpAny (model prog w) A (call (.type "enumerate") [v]) Q E s := by
  refine callType_new PySem.F.called_enumerate (by decide) (PySem.F.typeCall_enumerate_1 _) (PySem.F.newCall_enumerate_1 _) (fun obj => PySem.F.args_object_init_2 obj _) PySem.F.entry_enumerate_new (meets_enum1 B) ⟨h1, ?_⟩
  have hz : (s.heap.push o).objs.size = s.heap.objs.size + 1 := Heap.size_push ..
  refine (?_ : _ ∧ _)
  rw [hz]
  have he : IsEnum ((s.heap.push o).push { cls := .type "enumerate", data := .fields #[.none, .bool false, .ref s.heap.objs.size, rawInt 0, .none, .none] }) (s.heap.objs.size + 1) s.heap.objs.size 0 .none := hz ▸ Heap.get?_push_size (s.heap.push o) (o := { cls := .type "enumerate", data := .fields #[.none, .bool false, .ref s.heap.objs.size, rawInt 0, .none, .none] }) rfl
  exact ⟨⟨_, he, rfl⟩, h _ he (Heap.get?_push_of_some _ (Heap.get?_push_size _ B.free)) (by rw [Heap.size_push, hz]) fun b o x => Heap.get?_push_of_some _ (Heap.get?_push_of_some _ x)⟩
section
variable {X : Cx}
theorem enum_over {pins : List (Addr × Obj)} {σ : L2.St} {H1 : Hp} {s1 : Shared} {elts : List Expr} {kk : Nat} {tpos : Pos} {R : It → Hp → Prop} {a : Addr} {xs : List V} {c : Int} (I1 : Inv X pins σ H1 s1) (hq : SqT X.K H1 a xs) (q : R (IteT X.K a c) H1) {h' : Heap}
    (he : IsEnum h' (s1.heap.objs.size + 1) s1.heap.objs.size c .none) (hi : h'.get? s1.heap.objs.size = some { cls := .type "tuple_iterator", data := .fields #[.ref a, .int 0 0] }) (hk : ∀ b o, s1.heap.get? b = some o → h'.get? b = some o) :
    wpAny (model X.prog X.w) X.A (pyIter (.ref (s1.heap.objs.size + 1))) (PIE X pins σ (.Tuple elts kk tpos) R) X.xe { s1 with heap := h' } := by
  refine wpAny_pyIter_enum he ?_
  have I2 : Inv X pins σ H1 { s1 with heap := h' } := I1.kept (t' := s1.toks) hk
  refine ⟨s1.heap.objs.size + 1, [s1.heap.objs.size + 1, s1.heap.objs.size], _, _, H1, rfl, I2, turn_enumT a (s1.heap.objs.size + 1) s1.heap.objs.size c, ⟨⟨.none, ?_⟩, ⟨_, hi, rfl, rfl⟩, Nat.succ_ne_self _⟩, fun b hb => ?_, q⟩
  · rw [show c + ((0 : Nat) : Int) = c by omega]; exact he
  · have hle : s1.heap.objs.size ≤ b := by
      rcases (by simpa using hb : b = s1.heap.objs.size + 1 ∨ b = s1.heap.objs.size) with z | z
      · rw [z]; exact Nat.le_add_right _ _
      · rw [z]; exact Nat.le_refl _
    exact I1.fpOk hle (I1.hok.fresh hle)
def iEnumT (K : PySem.W.Frag) (ta : TA) : TI := fun σ H R => ta σ H fun vs H1 => ∃ a xs, vs = [.ref a] ∧ SqT K H1 a xs ∧ R (IteT K a 0) H1
theorem pi_enumT {e : Expr} {ta : TA} {p pos tpos : Pos} {elts : List Expr} {kk : Nat} (hg : Gl X "enumerate") (hm : X.mg "enumerate" = none) (ha : PA X [e] ta) (hs : starEach [e] X.env = [(false, eval e X.env)] := by rfl) :
    PI X (.Tuple elts kk tpos) (.Call (.Name "enumerate" p) [e] [] pos) (iEnumT X.K ta) := by
  refine ⟨fun pins s σ H R I h => Call_ (ld_blt I hg hm boot_enumerate (PyProof.Rows.callWith_type1 (thn (ha.run pos pins s σ H _ I h) fun us s1 ⟨vs, H1, I1, r1, q1⟩ => ?_) hs rfl))⟩
  obtain ⟨a, xs, rfl, hq, q⟩ := q1
  rw [Vals.ref1 r1]
  obtain ⟨its, rv, p', hz⟩ := I1.tuple hq
  exact enum_begins1 (begins_tuple a its.toArray) p' fun h' he hi hsz hk => enum_over I1 hq q he hi hk
def iEnumTS (K : PySem.W.Frag) (ta tk : TA) : TI := fun σ H R => ta σ H fun vs H1 => tk σ H1 fun zs H2 => ∃ a xs c, vs = [.ref a] ∧ zs = [.int c] ∧ 0 ≤ c ∧ c < 2 ^ 62 ∧ SqT K H2 a xs ∧ R (IteT K a c) H2
theorem callWith_typeK {M : Model} {A : Around} {E : Value → Shared → Prop} {s : Shared} {pos : Pos} {T : String} {first : List Value} {args : List (Bool × Sem Value)} {kw : List (Option Str × Sem Value)} {Q : Value → Shared → Prop} (pl : args.any (·.1) = false) (kn : kw.any (·.1.isNone) = false)
    (h : wpAny M A (evalArgs (.type T) true args kw) (fun a s1 => wpAny M A (call (.type T) (first ++ a.pos) a.kw) Q E s1) E s) : wpAny M A (callWith pos (.type T) first args kw) Q E s := by
  unfold callWith
  refine wpAny_bind (wpAny_holding (wpAny_mono h (fun a s1 h1 => wpAny_bind (wpAny_standAt ?_)) fun _ _ z => z))
  simp only [pl, kn, Bool.or_false]
  exact wpAny_bind (wpAny_pure (wpAny_bind (wpAny_mono h1 (fun r s2 hr => wpAny_bind (wpAny_holding (wpAny_point (wpAny_pure hr)))) fun _ _ z => z)))
theorem pi_enumTS {e e2 : Expr} {ta tk : TA} {p pos tpos kpos : Pos} {elts : List Expr} {kk : Nat} (hg : Gl X "enumerate") (hm : X.mg "enumerate" = none) (ha : PA X [e] ta) (hk : PK X [⟨some "start", e2, kpos⟩] tk) (hs : starEach [e] X.env = [(false, eval e X.env)] := by rfl) :
    PI X (.Tuple elts kk tpos) (.Call (.Name "enumerate" p) [e] [⟨some "start", e2, kpos⟩] pos) (iEnumTS X.K ta tk) := by
  refine ⟨fun pins s σ H R I h => wpAny_Call_Name_kw (ld_blt I hg hm boot_enumerate (callWith_typeK ?_ (by rfl) ?_))⟩
  · rw [hs]; rfl
  rw [hs]
  refine PyProof.Rows.evalArgs_kwB (by rfl) ?_
  have run := ha.run pos pins s σ H _ I h
  rw [hs] at run
  refine thn run fun us s1 ⟨vs, H1, I1, r1, q1⟩ => thn (hk.run pos pins s1 σ H1 _ I1 q1) fun ws s2 ⟨zs, H2, I2, r2, q2⟩ => ?_
  obtain ⟨a, xs, c, rfl, rfl, c0, c1, hq, q⟩ := q2
  rw [Vals.ref1 r1]
  obtain ⟨u, rfl, t, rfl⟩ := vals1 r2
  obtain ⟨its, rv, p', hz⟩ := I2.tuple hq
  exact enum_begins_start (begins_tuple a its.toArray) p' (by omega) (by omega) fun h' he hi hsz hk' => enum_over I2 hq q he hi hk'
end
theorem walk_enumT {K : PySem.W.Frag} {a : Addr} {xs : List V} {c : Int} : Walk (IteT K a c) xs.length (fun H => SqT K H a xs) (YPair (fun i => some (.int (c + (i : Int)))) (fun i => xs[i]?)) := by
  refine ⟨fun i _ hi q => ⟨xs, xs[i], q, List.getElem?_eq_getElem hi⟩, fun _ q => ⟨xs, q, Nat.le_refl _⟩, fun i H v H' _ q y => ?_⟩
  obtain ⟨T, x, h1, h2, h3, h4⟩ := y
  exact ⟨T, .int (c + (i : Int)), x, h1, h2, h3, rfl, h4 xs q⟩
def topAt (i : Nat) : Stmt := PySem.Challenge.pw_sentnext_k37_what_is_a_way.main.body.getD i (.Pass ⟨0, 0, 0, 0⟩)
abbrev s_whole : Stmt := topAt 1
abbrev s_tuple_of : Stmt := topAt 2
abbrev s_is_row_behind : Stmt := topAt 6
abbrev s_is_way_row : Stmt := topAt 7
abbrev s_is_way : Stmt := topAt 8
abbrev s_deck : Stmt := topAt 10
abbrev s_draw : Stmt := topAt 11
abbrev s_one : Stmt := topAt 12
abbrev s_odd : Stmt := topAt 13
abbrev s_bent : Stmt := topAt 14
abbrev s_small_house : Stmt := topAt 15
abbrev s_drawn_way : Stmt := topAt 16
abbrev s_is_int : Stmt := topAt 17
abbrev s_is_row : Stmt := topAt 18
abbrev s_l_is_way : Stmt := topAt 19
abbrev s_otherwise : Stmt := topAt 20
abbrev s_law : Stmt := topAt 21
theorem sc_whole : FnScope ["value", "low", "high"] ["value", "low", "high"] (defScope s_whole) :=
  ⟨rfl, rfl, rfl, by decide +kernel, rfl, by decide +kernel, by decide +kernel⟩
theorem sc_tuple_of : FnScope ["value", "many"] ["value", "many"] (defScope s_tuple_of) :=
  ⟨rfl, rfl, rfl, by decide +kernel, rfl, by decide +kernel, by decide +kernel⟩
theorem sc_is_row_behind : FnScope ["value", "number", "rows"] ["value", "number", "rows"] (defScope s_is_row_behind) :=
  ⟨rfl, rfl, rfl, by decide +kernel, rfl, by decide +kernel, by decide +kernel⟩
theorem sc_is_way_row : FnScope ["house", "value", "number", "rows", "deed", "nexts", "servers", "one"] ["house", "value", "number", "rows"] (defScope s_is_way_row) :=
  ⟨rfl, rfl, rfl, by decide +kernel, rfl, by decide +kernel, by decide +kernel⟩
theorem sc_is_way : FnScope ["house", "value", "number", "row"] ["house", "value"] (defScope s_is_way) :=
  ⟨rfl, rfl, rfl, by decide +kernel, rfl, by decide +kernel, by decide +kernel⟩
theorem sc_deck : FnScope ["_law_script"] ["_law_script"] (defScope s_deck) :=
  ⟨rfl, rfl, rfl, by decide +kernel, rfl, by decide +kernel, by decide +kernel⟩
theorem sc_draw : FnScope ["_law_deck_here", "_law_many", "_law_found", "_law_cell", "_law_mixed"] ["_law_deck_here", "_law_many"] (defScope s_draw) :=
  ⟨rfl, rfl, rfl, by decide +kernel, rfl, by decide +kernel, by decide +kernel⟩
theorem sc_one : FnScope ["_law_deck_here", "_law_items"] ["_law_deck_here", "_law_items"] (defScope s_one) :=
  ⟨rfl, rfl, rfl, by decide +kernel, rfl, by decide +kernel, by decide +kernel⟩
theorem sc_odd : FnScope ["_law_deck_here", "_law_some"] ["_law_deck_here"] (defScope s_odd) :=
  ⟨rfl, rfl, rfl, by decide +kernel, rfl, by decide +kernel, by decide +kernel⟩
theorem sc_bent : FnScope ["_law_deck_here", "_law_thing", "_law_deep", "_law_at", "_law_sort"] ["_law_deck_here", "_law_thing", "_law_deep"] (defScope s_bent) :=
  ⟨rfl, rfl, rfl, by decide +kernel, rfl, by decide +kernel, by decide +kernel⟩
theorem sc_small_house : FnScope ["_law_deck_here", "_law_servers", "_law_lag"] ["_law_deck_here"] (defScope s_small_house) :=
  ⟨rfl, rfl, rfl, by decide +kernel, rfl, by decide +kernel, by decide +kernel⟩
theorem sc_drawn_way : FnScope ["_law_deck_here", "_law_house", "_law_many", "_law_found", "_law_place", "_law_act", "_law_nexts", "_law_name", "_law_later"] ["_law_deck_here", "_law_house", "_law_many"] (defScope s_drawn_way) :=
  ⟨rfl, rfl, rfl, by decide +kernel, rfl, by decide +kernel, by decide +kernel⟩
theorem sc_is_int : FnScope ["_law_value", "_law_low", "_law_high"] ["_law_value", "_law_low", "_law_high"] (defScope s_is_int) :=
  ⟨rfl, rfl, rfl, by decide +kernel, rfl, by decide +kernel, by decide +kernel⟩
theorem sc_is_row : FnScope ["_law_house", "_law_value", "_law_place", "_law_many", "_law_act", "_law_nexts", "_law_name", "_law_later"] ["_law_house", "_law_value", "_law_place", "_law_many"] (defScope s_is_row) :=
  ⟨rfl, rfl, rfl, by decide +kernel, rfl, by decide +kernel, by decide +kernel⟩
theorem sc_l_is_way : FnScope ["_law_house", "_law_value", "_law_many", "_law_place", "_law_row"] ["_law_house", "_law_value"] (defScope s_l_is_way) :=
  ⟨rfl, rfl, rfl, by decide +kernel, rfl, by decide +kernel, by decide +kernel⟩
theorem sc_otherwise : FnScope ["_law_deck_here", "_law_house", "_law_value", "_law_spot", "_law_act", "_law_nexts", "_law_at", "_law_number", "_law_later"] ["_law_deck_here", "_law_house", "_law_value"] (defScope s_otherwise) :=
  ⟨rfl, rfl, rfl, by decide +kernel, rfl, by decide +kernel, by decide +kernel⟩
theorem sc_law : FnScope ["_law_script", "_law_deck_here", "_law_lap", "_law_house", "_law_value", "_law_some", "_law_long", "_law_k", "_law_thing", "_law_time", "_law_held", "_law_due"] ["_law_script"] (defScope s_law) :=
  ⟨rfl, rfl, rfl, by decide +kernel, rfl, by decide +kernel, by decide +kernel⟩
structure Txt (K : PySem.W.Frag) (mg : Str → Option Value) where
  a_whole : Addr
  d_whole : FuncData
  F_whole : Fun K "whole" "whole" s_whole a_whole d_whole
  g_whole : mg "whole" = some (.ref a_whole)
  b_whole : Binds K d_whole ["value", "low", "high"] []
  a_tuple_of : Addr
  d_tuple_of : FuncData
  F_tuple_of : Fun K "tuple_of" "tuple_of" s_tuple_of a_tuple_of d_tuple_of
  g_tuple_of : mg "tuple_of" = some (.ref a_tuple_of)
  b_tuple_of : Binds K d_tuple_of ["value", "many"] []
  a_is_row_behind : Addr
  d_is_row_behind : FuncData
  F_is_row_behind : Fun K "is_row_behind" "is_row_behind" s_is_row_behind a_is_row_behind d_is_row_behind
  g_is_row_behind : mg "is_row_behind" = some (.ref a_is_row_behind)
  b_is_row_behind : Binds K d_is_row_behind ["value", "number", "rows"] []
  a_is_way_row : Addr
  d_is_way_row : FuncData
  F_is_way_row : Fun K "is_way_row" "is_way_row" s_is_way_row a_is_way_row d_is_way_row
  g_is_way_row : mg "is_way_row" = some (.ref a_is_way_row)
  b_is_way_row : Binds K d_is_way_row ["house", "value", "number", "rows"] []
  a_is_way : Addr
  d_is_way : FuncData
  F_is_way : Fun K "is_way" "is_way" s_is_way a_is_way d_is_way
  g_is_way : mg "is_way" = some (.ref a_is_way)
  b_is_way : Binds K d_is_way ["house", "value"] []
  a_deck : Addr
  d_deck : FuncData
  F_deck : Fun K "_law_deck" "_law_deck" s_deck a_deck d_deck
  g_deck : mg "_law_deck" = some (.ref a_deck)
  b_deck : Binds K d_deck ["_law_script"] []
  a_draw : Addr
  d_draw : FuncData
  F_draw : Fun K "_law_draw" "_law_draw" s_draw a_draw d_draw
  g_draw : mg "_law_draw" = some (.ref a_draw)
  b_draw : Binds K d_draw ["_law_deck_here", "_law_many"] []
  a_one : Addr
  d_one : FuncData
  F_one : Fun K "_law_one" "_law_one" s_one a_one d_one
  g_one : mg "_law_one" = some (.ref a_one)
  b_one : Binds K d_one ["_law_deck_here", "_law_items"] []
  a_odd : Addr
  d_odd : FuncData
  F_odd : Fun K "_law_odd" "_law_odd" s_odd a_odd d_odd
  g_odd : mg "_law_odd" = some (.ref a_odd)
  b_odd : Binds K d_odd ["_law_deck_here"] []
  a_bent : Addr
  d_bent : FuncData
  F_bent : Fun K "_law_bent" "_law_bent" s_bent a_bent d_bent
  g_bent : mg "_law_bent" = some (.ref a_bent)
  b_bent : Binds K d_bent ["_law_deck_here", "_law_thing", "_law_deep"] []
  a_small_house : Addr
  d_small_house : FuncData
  F_small_house : Fun K "_law_small_house" "_law_small_house" s_small_house a_small_house d_small_house
  g_small_house : mg "_law_small_house" = some (.ref a_small_house)
  b_small_house : Binds K d_small_house ["_law_deck_here"] []
  a_drawn_way : Addr
  d_drawn_way : FuncData
  F_drawn_way : Fun K "_law_drawn_way" "_law_drawn_way" s_drawn_way a_drawn_way d_drawn_way
  g_drawn_way : mg "_law_drawn_way" = some (.ref a_drawn_way)
  b_drawn_way : Binds K d_drawn_way ["_law_deck_here", "_law_house", "_law_many"] []
  a_is_int : Addr
  d_is_int : FuncData
  F_is_int : Fun K "_law_is_int" "_law_is_int" s_is_int a_is_int d_is_int
  g_is_int : mg "_law_is_int" = some (.ref a_is_int)
  b_is_int : Binds K d_is_int ["_law_value", "_law_low", "_law_high"] []
  a_is_row : Addr
  d_is_row : FuncData
  F_is_row : Fun K "_law_is_row" "_law_is_row" s_is_row a_is_row d_is_row
  g_is_row : mg "_law_is_row" = some (.ref a_is_row)
  b_is_row : Binds K d_is_row ["_law_house", "_law_value", "_law_place", "_law_many"] []
  a_l_is_way : Addr
  d_l_is_way : FuncData
  F_l_is_way : Fun K "_law_is_way" "_law_is_way" s_l_is_way a_l_is_way d_l_is_way
  g_l_is_way : mg "_law_is_way" = some (.ref a_l_is_way)
  b_l_is_way : Binds K d_l_is_way ["_law_house", "_law_value"] []
  a_otherwise : Addr
  d_otherwise : FuncData
  F_otherwise : Fun K "_law_otherwise" "_law_otherwise" s_otherwise a_otherwise d_otherwise
  g_otherwise : mg "_law_otherwise" = some (.ref a_otherwise)
  b_otherwise : Binds K d_otherwise ["_law_deck_here", "_law_house", "_law_value"] []
  t_WAIT : Tok
  g_WAIT : mg "WAIT" = some (.int (-1) t_WAIT)
  t_MOST_WAY_ROWS : Tok
  g_MOST_WAY_ROWS : mg "MOST_WAY_ROWS" = some (.int (200) t_MOST_WAY_ROWS)
  m_abs : mg "abs" = none
  m_all : mg "all" = none
  m_bool : mg "bool" = none
  m_enumerate : mg "enumerate" = none
  m_int : mg "int" = none
  m_isinstance : mg "isinstance" = none
  m_len : mg "len" = none
  m_list : mg "list" = none
  m_range : mg "range" = none
  m_repr : mg "repr" = none
  m_tuple : mg "tuple" = none
/-! ### the deck of a script: a list of four, its cells a list of their own -/
/-- the deck at p, n numbers have been drawn -/
def Deck (K : PySem.W.Frag) (H : Hp) (p : Addr) (n : Nat) : Prop :=
  ∃ (l : Addr) (ns : List Int) (c r : Int), H p = some (.lst [.ref l, .int c, .int r, .int (n : Int)]) ∧ l ≠ p ∧ SqL K H l (ns.map V.int) ∧ ns.length ≤ 63 ∧ 0 ≤ c ∧ 0 ≤ r
theorem Deck.ne_new {K : PySem.W.Frag} {H : Hp} {p q : Addr} {n : Nat} (D : Deck K H p n) (h : H q = none) : q ≠ p := by
  obtain ⟨l, ns, c, r, hp, _⟩ := D
  exact (ne_of_none hp h).symm
theorem Deck.ne_tup {K : PySem.W.Frag} {H : Hp} {p t : Addr} {n : Nat} {xs : List V} (D : Deck K H p n) (h : H t = some (.tup xs)) : t ≠ p := by
  obtain ⟨l, ns, c, r, hp, _⟩ := D
  exact ne_of h hp (by intro z; cases z)
theorem Deck.put {K : PySem.W.Frag} {H : Hp} {p q : Addr} {n : Nat} {o : HO} (D : Deck K H p n) (h : H q = none) : Deck K (upd H q o) p n := by
  have nq := D.ne_new h
  obtain ⟨l, ns, c, r, hp, lp, hl, z⟩ := D
  exact ⟨l, ns, c, r, by rw [upd_ne nq.symm]; exact hp, lp, (Keep.new h).seq lp hl, z⟩
/-- an object that was new at a time when the deck stood is changed later -/
theorem Deck.write {K : PySem.W.Frag} {G H : Hp} {p q : Addr} {m n : Nat} {o : HO} (A : Deck K G p m) (h : G q = none) (k : Keep p G H) (D : Deck K H p n) : Deck K (upd H q o) p n := by
  have nq := A.ne_new h
  obtain ⟨l, ns, c, r, gp, lp, gl, g63, _⟩ := A
  obtain ⟨l', ns', c', r', hp, lp', hl, h63, hc, hr⟩ := D
  obtain ⟨z, hz⟩ := k.h l _ gp
  have e : l' = l := by
    rw [hp] at hz
    injection hz with hz
    injection hz with hz
    injection hz with hz _
    injection hz
  subst e
  have hp' : upd H q o p = some (.lst [.ref l', .int c', .int r', .int (n : Int)]) := by
    rw [upd_ne nq.symm]
    exact hp
  rcases gl with gl | gl
  · have lq : l' ≠ q := by
      rcases gl with gl | ⟨_, gl⟩
      · exact ne_of_none gl h
      · exact ne_of_none gl h
    refine ⟨l', ns', c', r', hp', lp, ?_, h63, hc, hr⟩
    rcases hl with (hl | ⟨u, hl⟩) | hl
    · exact Or.inl (Or.inl (by rw [upd_ne lq]; exact hl))
    · exact Or.inl (Or.inr ⟨u, by rw [upd_ne lq]; exact hl⟩)
    · exact Or.inr hl
  · exact ⟨l', ns, c', r', hp', lp, Or.inr gl, g63, hc, hr⟩
theorem ints_dp {K : PySem.W.Frag} {H : Hp} : ∀ ns : List Int, DpAll K H (ns.map V.int) (ns.map PyData.int)
  | [] => .nil
  | n :: ns => .cons (.int n) (ints_dp ns)
theorem ints_lay : ∀ ns : List Int, PyData.canLayAll0 (ns.map PyData.int) = true
  | [] => by simp only [List.map_nil, PyData.canLayAll0]
  | n :: ns => by simp only [List.map_cons, PyData.canLayAll0, PyData.canLay0, ints_lay ns, Bool.and_self]
theorem ints_deep : ∀ ns : List Int, PyData.depthAll (ns.map PyData.int) = 0
  | [] => by simp only [List.map_nil, PyData.depthAll]
  | n :: ns => by simp only [List.map_cons, PyData.depthAll, PyData.depth, ints_deep ns, Nat.max_self]
theorem ints_shaped (ns : List Int) : SeqAt.shaped (.list (ns.map PyData.int)) = true := by
  unfold SeqAt.shaped
  simp only [PyData.canLay0, PyData.depth, ints_lay, ints_deep, Bool.true_and, decide_eq_true_eq]
  decide
theorem ints_nil (ns : List Int) : PyData.eqv (.list (ns.map PyData.int)) (.list []) = ns.isEmpty := by
  cases ns <;> simp [PyData.eqv, PyData.eqvAll]
theorem int_at (ns : List Int) (i : Int) (h0 : 0 ≤ i) (h1 : i < (ns.length : Int)) : ∃ z, atI (ns.map V.int) i = some (.int z) := by
  obtain ⟨j, rfl⟩ : ∃ j : Nat, i = (j : Int) := ⟨i.toNat, (Int.toNat_of_nonneg h0).symm⟩
  have hj : j < ns.length := by omega
  refine ⟨ns[j], atI_nat ?_⟩
  rw [List.getElem?_map, List.getElem?_eq_getElem hj]
  rfl
theorem fmod_lo {a m : Int} (h : 0 < m) : 0 ≤ a.fmod m := Int.fmod_nonneg_of_pos _ h
theorem fmod_hi {a m : Int} (h : 0 < m) : a.fmod m < m := Int.fmod_lt_of_pos _ h
theorem fdiv_lo {a m : Int} (h : 0 ≤ a) (hm : 0 < m) : 0 ≤ a.fdiv m := by
  rw [Int.fdiv_eq_ediv_of_nonneg _ (Int.le_of_lt hm)]
  exact Int.ediv_nonneg h (Int.le_of_lt hm)
theorem rIx_of {K : PySem.W.Frag} {H : Hp} {p : Addr} {xs : List V} {i : Int} {v : V} {Q : VK} (h : SqA K H p xs) (he : atI xs i = some v) (q : Q v H) : rIx K (.ref p) (.int i) H Q := by
  rcases h with h | h
  · exact Or.inl ⟨p, xs, i, v, rfl, rfl, h, he, q⟩
  · exact Or.inr (Or.inl ⟨p, xs, i, v, rfl, rfl, h, he, q⟩)
def sp_draw (K : PySem.W.Frag) : Sp := fun vs H Q _ => ∃ (p : Addr) (m : Int) (n : Nat), vs = [.ref p, .int m] ∧ 0 < m ∧ m < 100000 ∧ Deck K H p n ∧ n < 1000000 ∧
  ∀ (r : Int) (J : Hp), 0 ≤ r → r < m → Deck K J p (n + 1) → Keep p H J → Q (.int r) J
def sp_one (K : PySem.W.Frag) : Sp := fun vs H Q _ => ∃ (p a : Addr) (xs : List V) (n : Nat), vs = [.ref p, .ref a] ∧ SqL K H a xs ∧ a ≠ p ∧ 0 < xs.length ∧ xs.length < 100000 ∧ Deck K H p n ∧ n < 1000000 ∧
  ∀ (i : Nat) (x : V) (J : Hp), xs[i]? = some x → Deck K J p (n + 1) → Keep p H J → Q x J
section
variable {P : Program} {w : World} {K : PySem.W.Frag} {mg : Str → Option Value} {base : Heap}
theorem ok_draw (T : Txt K mg) : FnOk P w K mg base CX0 1 T.a_draw T.d_draw ["_law_deck_here", "_law_many"] (sp_draw K) := by
  refine T.F_draw.ok sc_draw (fun vs H Q E h => ?_) (fun cdv A outer s H vs Q E hr h => ?_)
  · obtain ⟨p, m, n, rfl, _⟩ := h
    rfl
  · obtain ⟨p, m, n, rfl, m0, m1, ⟨l, ns, c, r, hp, lp, hl, h63, c0, r0⟩, hn, k⟩ := h
    have mne : m ≠ 0 := by omega
    have md : CDivN r m := ⟨mne, by omega⟩
    refine ⟨_, (pss_cons (ps_asg (pe_op op_add (pe_ix ix_list (pv 0) pe_int (fun _ _ => rfl)) pe_int) (pg_sub (pv 0) pe_int set_list))
      (pss_cons (ps_if (pt_cmpR op_gt (pe_ix ix_list (pv 0) pe_int (fun _ _ => rfl)) pe_int (nomark _))
        (pss_cons (ps_set (i := 2) sc_draw.nd rfl (Or.inl rfl) (pe_op op_modN (pe_callTy (T := "int") call_int1 (by rfl) T.m_int (by decide +kernel) (pa_cons (pe_ix ix_list (pv 0) pe_int (fun _ _ => rfl)) pa_nil)) (pv 1)))
      (pss_cons (ps_asg (pe_op op_fdivN (pe_ix ix_list (pv 0) pe_int (fun _ _ => rfl)) (pv 1)) (pg_sub (pv 0) pe_int set_list))
      (pss_one (ps_ret (pv 2)))))
        pss_nil)
      (pss_cons (ps_set (i := 3) sc_draw.nd rfl (Or.inl rfl) pe_int)
      (Evl.pss_cut (ps_if (pt_cmpR (op_neD hr.units) (pe_ix ix_list (pv 0) pe_int (fun _ _ => rfl)) (pe_lst pa_nil) (nomark _))
        (pss_one (ps_set (i := 3) sc_draw.nd rfl (Or.inl rfl) (pe_ix ix_list (pe_ix ix_list (pv 0) pe_int (fun _ _ => rfl)) (pe_op op_modN (pe_callTy (T := "int") call_int1 (by rfl) T.m_int (by decide +kernel) (pa_cons (pe_ix ix_list (pv 0) pe_int (fun _ _ => rfl)) pa_nil)) (pe_callB (id := "len") call_len_seq (by rfl) T.m_len (by decide +kernel) (pa_cons (pe_ix ix_list (pv 0) pe_int (fun _ _ => rfl)) pa_nil))) (fun _ _ => rfl))))
        pss_nil)
      (pss_cons (ps_asg (pe_op op_add (pe_ix ix_list (pv 0) pe_int (fun _ _ => rfl)) pe_int) (pg_sub (pv 0) pe_int set_list))
      (Evl.pss_cut (ps_if (PW.pt (pw_and (pt_cmpR op_ge (pe_callB (id := "abs") call_abs (by rfl) T.m_abs (by decide +kernel) (pa_cons (pv 3) pa_nil)) (pe_op op_pow pe_int pe_int) (nomark _)) (pw_and1 (pt_cmpR op_le (pe_ix ix_list (pv 0) pe_int (fun _ _ => rfl)) (pe_callB (id := "len") call_len_seq (by rfl) T.m_len (by decide +kernel) (pa_cons (pe_ix ix_list (pv 0) pe_int (fun _ _ => rfl)) pa_nil)) (nomark _)))))
        (pss_cons (ps_asg (pe_op op_fdivN (pe_callB (id := "abs") call_abs (by rfl) T.m_abs (by decide +kernel) (pa_cons (pv 3) pa_nil)) (pv 1)) (pg_sub (pv 0) pe_int set_list))
      (pss_one (ps_ret (pe_op op_modN (pe_callTy (T := "int") call_int1 (by rfl) T.m_int (by decide +kernel) (pa_cons (pe_callB (id := "abs") call_abs (by rfl) T.m_abs (by decide +kernel) (pa_cons (pv 3) pa_nil)) pa_nil)) (pv 1)))))
        pss_nil)
      (pss_cons (ps_set (i := 4) sc_draw.nd rfl (Or.inl rfl) (pe_op op_modN (pe_op op_pow (pe_callTy (T := "int") call_int1 (by rfl) T.m_int (by decide +kernel) (pa_cons (pe_op op_add (pe_op op_modN (pe_callTy (T := "int") call_int1 (by rfl) T.m_int (by decide +kernel) (pa_cons (pv 3) pa_nil)) pe_int) (pe_op op_mul pe_int (pe_ix ix_list (pv 0) pe_int (fun _ _ => rfl)))) pa_nil)) pe_int) pe_int))
      (pss_cons (ps_set (i := 4) sc_draw.nd rfl (Or.inl rfl) (pe_op op_modN (pe_op op_pow (pe_callTy (T := "int") call_int1 (by rfl) T.m_int (by decide +kernel) (pa_cons (pe_op op_add (pe_op op_mul (pv 4) (pe_op op_add (pe_op op_mul pe_int (pe_ix ix_list (pv 0) pe_int (fun _ _ => rfl))) pe_int)) pe_int) pa_nil)) pe_int) pe_int))
      (pss_one (ps_ret (pe_op op_modN (pe_op op_fdivN (pv 4) pe_int) (pv 1)))))))))))), ?_⟩
    -- the number of draws
    refine ⟨_, rfl, p, _, 3, _, rfl, rfl, SqL.of hp, rfl, _, _, rfl, rfl, _, rfl, p, _, 3, 3, rfl, rfl, hp, rfl, ?_⟩
    have en : ((n : Int) + 1) = ((n + 1 : Nat) : Int) := by omega
    have h1 : upd H p (.lst [.ref l, .int c, .int r, .int ((n : Int) + 1)]) p = some (.lst [.ref l, .int c, .int r, .int ((n : Int) + 1)]) := upd_same
    have K1 : Keep p H (upd H p (.lst [.ref l, .int c, .int r, .int ((n : Int) + 1)])) := Keep.put hp
    have l1 := K1.seq lp hl
    refine ⟨_, rfl, p, _, 2, _, rfl, rfl, SqL.of h1, rfl, _, _, rfl, rfl, _, rfl, ite2 (fun hpos => ?_) (fun _ => ?_)⟩
    · refine ⟨_, rfl, p, _, 2, _, rfl, rfl, SqL.of h1, rfl, .inl ⟨_, rfl, _, rfl, _, _, rfl, rfl, mne, ?_⟩⟩
      refine ⟨_, rfl, p, _, 2, _, rfl, rfl, SqL.of h1, rfl, _, rfl, _, _, rfl, rfl, md, _, rfl, p, _, 2, 2, rfl, rfl, h1, rfl, ?_⟩
      refine ⟨_, rfl, k _ _ (fmod_lo m0) (fmod_hi m0) ?_ (K1.trans (Keep.put h1))⟩
      exact ⟨l, ns, c, r.fdiv m, by rw [upd_same, ← en]; rfl, lp, (K1.trans (Keep.put h1)).seq lp hl, h63, c0, fdiv_lo r0 m0⟩
    · -- the cell: 67, or one of the script's
      let H1 := upd H p (.lst [.ref l, .int c, .int r, .int ((n : Int) + 1)])
      refine ⟨fun σ' H2 => ∃ z : Int, σ' = [some (.ref p), some (.int m), none, some (.int z), none] ∧ Same H1 H2, ?_, ?_⟩
      · refine ⟨_, rfl, p, _, 0, _, rfl, rfl, SqL.of h1, rfl, Nat.zero_le _, fun q hq => ?_⟩
        have s2 : Same H1 (upd H1 q (.lst [])) := fun b o e => by
          rw [upd_ne (ne_of_none e hq)]
          exact e
        have h2 := s2 _ _ h1
        refine ⟨.list (ns.map PyData.int), .list [], .lst (s2.seq l1) (ints_dp ns), .lst (SqL.of upd_same) .nil, ints_shaped ns, by decide, _, rfl, ?_⟩
        rw [ints_nil]
        cases ns with
        | nil => exact ⟨67, rfl, s2⟩
        | cons y ys =>
          refine iteT ?_
          have len0 : (((y :: ys).length : Nat) : Int) ≠ 0 := by rw [List.length_cons]; omega
          have lenp : (0 : Int) < (((y :: ys).length : Nat) : Int) := by rw [List.length_cons]; omega
          have e2 : (((y :: ys).map V.int).length : Int) = (((y :: ys).length : Nat) : Int) := by rw [List.length_map]
          obtain ⟨z, hz⟩ := int_at (y :: ys) (c.fmod (((y :: ys).length : Nat) : Int)) (fmod_lo lenp) (fmod_hi lenp)
          refine ⟨_, rfl, p, _, 0, _, rfl, rfl, SqL.of h2, rfl, _, rfl, p, _, 1, _, rfl, rfl, SqL.of h2, rfl, .inl ⟨_, rfl, _, rfl, p, _, 0, _, rfl, rfl, SqL.of h2, rfl, l, _, rfl, .inl (s2.seq l1), c, _, rfl, rfl, by rw [e2]; exact len0, ?_⟩⟩
          rw [e2]
          exact ⟨l, _, _, _, rfl, rfl, s2.seq l1, hz, z, rfl, s2⟩
      · rintro σ' H2 ⟨z, rfl, s2⟩
        have h2 := s2 _ _ h1
        have K2 : Keep p H H2 := K1.trans (Keep.of_same s2)
        -- one cell more has been read
        refine ⟨_, rfl, p, _, 1, _, rfl, rfl, SqL.of h2, rfl, _, _, rfl, rfl, _, rfl, p, _, 1, 1, rfl, rfl, h2, rfl, ?_⟩
        have K3 : Keep p H (upd H2 p (.lst [.ref l, .int (c + 1), .int r, .int ((n : Int) + 1)])) := K2.trans (Keep.put h2)
        have h3 : upd H2 p (.lst [.ref l, .int (c + 1), .int r, .int ((n : Int) + 1)]) p = some (.lst [.ref l, .int (c + 1), .int r, .int ((n : Int) + 1)]) := upd_same
        have l3 := K3.seq lp hl
        have D3 : Deck K (upd H2 p (.lst [.ref l, .int (c + 1), .int r, .int ((n : Int) + 1)])) p (n + 1) := ⟨l, ns, c + 1, r, by rw [h3, en], lp, l3, h63, by omega, r0⟩
        refine ⟨fun σ' H' => σ' = [some (.ref p), some (.int m), none, some (.int z), none] ∧ H' = upd H2 p (.lst [.ref l, .int (c + 1), .int r, .int ((n : Int) + 1)]), ?_, ?_⟩
        · refine ⟨_, rfl, _, rfl, 10, 18, rfl, rfl, ⟨by decide, by decide, by decide⟩, _, _, rfl, rfl, _, rfl, ?_⟩
          refine ite2 (fun _ => ?_) (fun _ => iteF ⟨rfl, rfl⟩)
          refine ⟨_, rfl, p, _, 1, _, rfl, rfl, SqL.of h3, rfl, _, rfl, p, _, 0, _, rfl, rfl, SqL.of h3, rfl, l, _, rfl, .inl l3, _, _, rfl, rfl, _, rfl, ?_⟩
          refine ite2 (fun _ => ?_) (fun _ => ⟨rfl, rfl⟩)
          have az : 0 ≤ (if z < 0 then -z else z) := by split <;> omega
          refine ⟨_, rfl, _, rfl, _, rfl, _, _, rfl, rfl, ⟨mne, by omega⟩, _, rfl, p, _, 2, 2, rfl, rfl, h3, rfl, ?_⟩
          refine ⟨_, rfl, _, rfl, .inl ⟨_, rfl, _, rfl, _, _, rfl, rfl, mne, ?_⟩⟩
          refine k _ _ (fmod_lo m0) (fmod_hi m0) ?_ (K3.trans (Keep.put h3))
          exact ⟨l, ns, c + 1, (if z < 0 then -z else z).fdiv m, by rw [upd_same, ← en]; rfl, lp, (K3.trans (Keep.put h3)).seq lp hl, h63, by omega, fdiv_lo az m0⟩
        · rintro σ' H' ⟨rfl, rfl⟩
          -- otherwise mixed
          have a0 : 0 ≤ z.fmod 2147483629 := fmod_lo (by decide)
          have a1 : z.fmod 2147483629 < 2147483629 := fmod_hi (by decide)
          refine ⟨_, rfl, .inl ⟨_, rfl, _, _, rfl, rfl, (by show (2147483629 : Int) ≠ 0; decide), _, rfl, p, _, 3, _, rfl, rfl, SqL.of h3, rfl, _, _, rfl, rfl, .inl ⟨by show -(2 ^ 64) < (67867967 : Int); decide, by show (67867967 : Int) < 2 ^ 64; decide⟩, _, _, rfl, rfl, ?_⟩⟩
          refine .inl ⟨_, rfl, _, _, rfl, rfl, ⟨by show (0 : Int) ≤ 5; decide, by show (5 : Int) ≤ 1000000; decide, by omega⟩, _, _, rfl, rfl, (by show (2147483647 : Int) ≠ 0; decide), ?_⟩
          generalize ((z.fmod 2147483629 + 67867967 * ((n : Int) + 1)) ^ (5 : Int).toNat) = big
          have b0 : 0 ≤ big.fmod 2147483647 := fmod_lo (by decide)
          have b1 : big.fmod 2147483647 < 2147483647 := fmod_hi (by decide)
          obtain ⟨mix, hm⟩ : ∃ mix, mix = big.fmod 2147483647 := ⟨_, rfl⟩
          rw [← hm] at b0 b1
          have c1 : mix * (2 * ((n : Int) + 1) + 3) ≤ 2147483647 * 3000000 := Int.mul_le_mul (by omega) (by omega) (by omega) (by decide)
          have c2 : 0 ≤ mix * (2 * ((n : Int) + 1) + 3) := Int.mul_nonneg b0 (by omega)
          have c3 : (mix * (2 * ((n : Int) + 1) + 3) + 5323).natAbs < 2 ^ 64 := by omega
          have c4 : -(2 ^ 64) < mix ∧ mix < 2 ^ 64 := ⟨by omega, by omega⟩
          rw [hm] at c3 c4
          refine ⟨_, rfl, _, rfl, p, _, 3, _, rfl, rfl, SqL.of h3, rfl, _, _, rfl, rfl, .inl ⟨by show -(2 ^ 64) < (2 : Int); decide, by show (2 : Int) < 2 ^ 64; decide⟩, _, _, rfl, rfl, _, _, rfl, rfl, .inl c4, _, _, rfl, rfl, ?_⟩
          refine .inl ⟨_, rfl, _, _, rfl, rfl, ⟨by show (0 : Int) ≤ 3; decide, by show (3 : Int) ≤ 1000000; decide, c3⟩, _, _, rfl, rfl, (by show (2147483587 : Int) ≠ 0; decide), ?_⟩
          refine ⟨_, rfl, _, _, rfl, rfl, ⟨by show (64 : Int) ≠ 0; decide, by show (64 : Int).natAbs < 1073741824; decide⟩, _, rfl, _, _, rfl, rfl, mne, ?_⟩
          exact k _ _ (fmod_lo m0) (fmod_hi m0) D3 K3
theorem ok_one (T : Txt K mg) : FnOk P w K mg base CX0 2 T.a_one T.d_one ["_law_deck_here", "_law_items"] (sp_one K) := by
  have G_draw : FnOk P w K mg base CX0 1 T.a_draw T.d_draw ["_law_deck_here", "_law_many"] (sp_draw K) := ok_draw T
  refine T.F_one.ok sc_one (fun vs H Q E h => ?_) (fun cdv A outer s H vs Q E hr h => ?_)
  · obtain ⟨p, a, xs, n, rfl, _⟩ := h
    rfl
  · obtain ⟨p, a, xs, n, rfl, hx, ap, x0, x1, D, hn, k⟩ := h
    refine ⟨_, (pss_one (ps_ret (pe_ix ix_seq (pv 1) (pe_call G_draw (hr.mono (by omega)) (by rfl) T.g_draw T.F_draw.kp T.b_draw .nil pass0 (pa_cons (pv 0) (pa_cons (pe_callB (id := "len") call_len_seq (by rfl) T.m_len (by decide +kernel) (pa_cons (pv 1) pa_nil)) pa_nil))) (fun _ _ => rfl)))), ?_⟩
    refine ⟨_, rfl, _, rfl, _, rfl, a, xs, rfl, .inl hx, p, (xs.length : Int), n, rfl, by omega, by omega, D, hn, fun r J r0 r1 DJ KJ => ?_⟩
    obtain ⟨i, rfl⟩ : ∃ i : Nat, r = (i : Int) := ⟨r.toNat, (Int.toNat_of_nonneg r0).symm⟩
    have hi : i < xs.length := by omega
    refine rIx_of (.inl (KJ.seq ap hx)) (atI_nat (List.getElem?_eq_getElem hi)) ?_
    exact k i _ J (List.getElem?_eq_getElem hi) DJ KJ
end

/-! ### the deck made -/
theorem same_new {q : Addr} {H : Hp} {o : HO} (h : H q = none) : Same H (upd H q o) := fun b u e => by
  rw [upd_ne (ne_of_none e h)]
  exact e
theorem Deck.of_same {K : PySem.W.Frag} {H J : Hp} {p : Addr} {n : Nat} (D : Deck K H p n) (e : Same H J) : Deck K J p n := by
  obtain ⟨l, ns, c, r, hp, lp, hl, z⟩ := D
  exact ⟨l, ns, c, r, e _ _ hp, lp, e.seq hl, z⟩
theorem Keep.free {p q : Addr} {H J : Hp} (k : Keep p H J) (n : q ≠ p) (h : J q = none) : H q = none := by
  cases e : H q with
  | none => rfl
  | some o =>
    cases o with
    | tbl x =>
      obtain ⟨x', e', _⟩ := k.t q x e
      rw [e'] at h
      cases h
    | _ =>
      rw [k.at n e] at h
      cases h
def sp_deck (K : PySem.W.Frag) : Sp := fun vs H Q _ => ∃ (a : Addr) (ns : List Int), vs = [.ref a] ∧ SqL K H a (ns.map V.int) ∧ ns.length ≤ 63 ∧
  ∀ (p : Addr) (J : Hp), Deck K J p 0 → Same H J → H p = none → Q (.ref p) J
theorem cut63 (xs : List V) (h : xs.length ≤ 63) : cutV xs none (some 63) = xs := by
  unfold cutV
  rw [HT.sIx_none, show HT.sIx xs.length xs.length (some 63) = min 63 xs.length from HT.sIx_nat xs.length xs.length 63]
  rw [List.drop_zero, Nat.sub_zero, List.take_of_length_le (by omega)]
section
variable {P : Program} {w : World} {K : PySem.W.Frag} {mg : Str → Option Value} {base : Heap}
theorem ok_deck (T : Txt K mg) : FnOk P w K mg base CX0 1 T.a_deck T.d_deck ["_law_script"] (sp_deck K) := by
  refine T.F_deck.ok sc_deck (fun vs H Q E h => ?_) (fun cdv A outer s H vs Q E hr h => ?_)
  · obtain ⟨a, ns, rfl, _⟩ := h
    rfl
  · obtain ⟨a, ns, rfl, hl, h63, k⟩ := h
    refine ⟨_, (pss_one (ps_ret (pe_lst (pa_cons (pe_callTy (T := "list") call_list_of (by rfl) T.m_list (by decide +kernel) (pa_cons (pe_slice sl_list (pv 0) po_none (po_some pe_int)) pa_nil)) (pa_cons pe_int (pa_cons pe_int (pa_cons pe_int pa_nil))))))), ?_⟩
    refine ⟨_, rfl, 63, rfl, a, _, rfl, hl, fun c hc => ?_⟩
    have s1 : Same H (upd H c (.lst (cutV (ns.map V.int) none (some 63)))) := same_new hc
    refine ⟨c, _, rfl, .inl (SqL.of upd_same), fun l hl' => ?_⟩
    refine ⟨by show 4 ≤ sizeLine; decide, fun p hp => ?_⟩
    have s2 := s1.trans (same_new (o := .lst (cutV (ns.map V.int) none (some 63))) hl')
    have lp : l ≠ p := fun e => by
      rw [← e, upd_same] at hp
      cases hp
    refine k p _ ⟨l, ns, 0, 0, upd_same, lp, SqL.of ?_, h63, by decide, by decide⟩ (s2.trans (same_new hp)) (s2.free hp)
    rw [upd_ne lp, upd_same, cut63 _ (by rw [List.length_map]; exact h63)]
end

/-! ### data behind the deck -/
/-- data behind the deck -/
abbrev Dt (K : PySem.W.Frag) (p : Addr) (H : Hp) (v : V) (d : PyData) : Prop := Dp K (off p H) v d
theorem Keep.dt {K : PySem.W.Frag} {p : Addr} {H J : Hp} {v : V} {d : PyData} (k : Keep p H J) (h : Dt K p H v d) : Dt K p J v d := dpSame k.s d v h
theorem Keep.all {K : PySem.W.Frag} {p : Addr} {H J : Hp} {vs : List V} {ds : List PyData} (k : Keep p H J) (h : DpAll K (off p H) vs ds) : DpAll K (off p J) vs ds := dpAllSame k.s ds vs h
theorem dt_tup {K : PySem.W.Frag} {p t : Addr} {H : Hp} {vs : List V} {ds : List PyData} (tp : t ≠ p) (ht : H t = none) (h : DpAll K (off p H) vs ds) : Dt K p (upd H t (.tup vs)) (.ref t) (.tuple ds) :=
  .tup (SqT.of (off_at tp upd_same)) (Keep.all (Keep.new ht) h)
theorem dt_lst {K : PySem.W.Frag} {p t : Addr} {H : Hp} {vs : List V} {ds : List PyData} (tp : t ≠ p) (ht : H t = none) (h : DpAll K (off p H) vs ds) : Dt K p (upd H t (.lst vs)) (.ref t) (.list ds) :=
  .lst (SqL.of (off_at tp upd_same)) (Keep.all (Keep.new ht) h)
theorem dpAll_snoc {K : PySem.W.Frag} {H : Hp} {vs : List V} {ds : List PyData} {v : V} {d : PyData} (a : DpAll K H vs ds) (b : Dp K H v d) : DpAll K H (vs ++ [v]) (ds ++ [d]) := dpAll_append a (.cons b .nil)
theorem niceAll_append {e : Nat} (a b : List PyData) : niceAll e (a ++ b) = (niceAll e a && niceAll e b) := by
  induction a with
  | nil => simp [niceAll]
  | cons x a ih => simp [niceAll, ih, Bool.and_assoc]
theorem niceAll_reverse {e : Nat} {a : List PyData} (h : niceAll e a = true) : niceAll e a.reverse = true :=
  niceAll_iff.mpr fun d hd => niceAll_iff.mp h d (List.mem_reverse.mp hd)
theorem depthAll_reverse (a : List PyData) : PyData.depthAll a.reverse = PyData.depthAll a :=
  Nat.le_antisymm (depthAll_le.mpr fun d hd => depthAll_le.mp (Nat.le_refl _) d (List.mem_reverse.mp hd)) (depthAll_le.mpr fun d hd => depthAll_le.mp (Nat.le_refl _) d (List.mem_reverse.mpr hd))
theorem split_at {α : Type} {l : List α} {j : Nat} {x : α} (h : l[j]? = some x) : l = l.take j ++ x :: l.drop (j + 1) := by
  have hj := (List.getElem?_eq_some_iff.mp h).1
  have e := (List.getElem?_eq_some_iff.mp h).2
  rw [← e, List.getElem_cons_drop, List.take_append_drop]
theorem cut_to (xs : List V) (j : Nat) (h : j ≤ xs.length) : cutV xs none (some (j : Int)) = xs.take j := by
  unfold cutV
  rw [HT.sIx_none, HT.sIx_nat, List.drop_zero, Nat.sub_zero, Nat.min_eq_left h]
theorem cut_from (xs : List V) (j : Nat) (h : j ≤ xs.length) : cutV xs (some (j : Int)) none = xs.drop j := by
  unfold cutV
  rw [HT.sIx_none, HT.sIx_nat, Nat.min_eq_left h, List.take_of_length_le (by rw [List.length_drop]; exact Nat.le_refl _)]
theorem isA_tup {d : PyData} (h : isA "tuple" d = true) : ∃ ds, d = .tuple ds := by
  cases d <;> first | exact ⟨_, rfl⟩ | (exfalso; revert h; simp [isA, isS, kindD])
theorem isA_int {d : PyData} (h : isA "int" d = true) (hb : isA "bool" d = false) : ∃ i, d = .int i := by
  cases d <;> first | exact ⟨_, rfl⟩ | (exfalso; revert h hb; simp [isA, isS, kindD])
theorem Dt.get {K : PySem.W.Frag} {p : Addr} {H : Hp} {v : V} {ds : List PyData} (h : Dt K p H v (.tuple ds)) : ∃ (a : Addr) (xs : List V), v = .ref a ∧ SqT K H a xs ∧ DpAll K (off p H) xs ds := by
  cases h with | tup h1 h2 => exact ⟨_, _, rfl, sameT off_in h1, h2⟩
theorem dt_of {K : PySem.W.Frag} {p t : Addr} {H : Hp} {n : Nat} {xs : List V} {ds : List PyData} (D : Deck K H p n) (h : SqT K H t xs) (a : DpAll K (off p H) xs ds) : Dt K p H (.ref t) (.tuple ds) := by
  obtain ⟨_, _, _, _, hp, _⟩ := D
  exact .tup (tup_off hp h) a
theorem paired_snoc {α β : Type} {F : α → β → Prop} : ∀ {as : List α} {bs : List β} {a : α} {b : β}, Paired F as bs → F a b → Paired F (as ++ [a]) (bs ++ [b])
  | _, _, _, _, .nil, h => .cons h .nil
  | _, _, _, _, .cons r t, h => .cons r (paired_snoc t h)
/-- on the way through a list of data: what has been made so far -/
structure Acc (K : PySem.W.Frag) (p : Addr) (n : Nat) (H0 H : Hp) (vs : List V) (ds : List PyData) : Prop where
  dk : Deck K H p n
  al : DpAll K (off p H) vs ds
  kp : Keep p H0 H
section
variable {K : PySem.W.Frag} {p t : Addr} {n : Nat} {vs us : List V} {ds es : List PyData} {H0 H J : Hp}
theorem Acc.same (a : Acc K p n H0 H vs ds) (s : Same H J) : Acc K p n H0 J vs ds := ⟨a.dk.of_same s, Keep.all (Keep.of_same s) a.al, a.kp.trans (Keep.of_same s)⟩
theorem Acc.new {o : HO} (a : Acc K p n H0 H vs ds) (h : H t = none) : Acc K p n H0 (upd H t o) vs ds := a.same (same_new h)
theorem Acc.add {v : V} {d : PyData} (a : Acc K p n H0 H vs ds) (b : Dt K p H v d) : Acc K p n H0 H (vs ++ [v]) (ds ++ [d]) := ⟨a.dk, dpAll_snoc a.al b, a.kp⟩
theorem Acc.keep {m : Nat} (a : Acc K p n H0 H vs ds) (k : Keep p H J) (D : Deck K J p m) : Acc K p m H0 J vs ds := ⟨D, k.all a.al, a.kp.trans k⟩
end
theorem dpAll_flat {K : PySem.W.Frag} {H : Hp} {vs : List V} {ds : List PyData} (h : DpAll K H vs ds) : ∀ n : Nat, DpAll K H (List.replicate n vs).flatten (List.replicate n ds).flatten
  | 0 => .nil
  | n + 1 => by
    rw [List.replicate_succ, List.replicate_succ, List.flatten_cons, List.flatten_cons]
    exact dpAll_append h (dpAll_flat h n)
theorem wt_flat (ds : List PyData) : ∀ n : Nat, wtAll (List.replicate n ds).flatten = n * wtAll ds
  | 0 => by simp [wtAll]
  | n + 1 => by
    rw [List.replicate_succ, List.flatten_cons, wtAll_append, wt_flat ds n, Nat.succ_mul]
    omega
theorem mem_flat {ds : List PyData} {d : PyData} : ∀ {n : Nat}, d ∈ (List.replicate n ds).flatten → d ∈ ds := fun {n} h => by
  obtain ⟨l, hl, hd⟩ := List.mem_flatten.mp h
  rw [List.eq_of_mem_replicate hl] at hd
  exact hd
theorem wt_take (ds : List PyData) (j : Nat) : wtAll (ds.take j) ≤ wtAll ds := by
  have := congrArg wtAll (List.take_append_drop j ds)
  rw [wtAll_append] at this
  omega
theorem wt_drop (ds : List PyData) (j : Nat) : wtAll (ds.drop j) ≤ wtAll ds := by
  have := congrArg wtAll (List.take_append_drop j ds)
  rw [wtAll_append] at this
  omega
/-- tuples and lists of small items -/
theorem tiny_tup {e W m : Nat} {ds : List PyData} (h : ∀ d ∈ ds, nice e d = true ∧ d.depth ≤ m) (hw : wtAll ds < W) : Tiny e W (m + 1) (.tuple ds) ∧ Tiny e W (m + 1) (.list ds) := by
  have a : niceAll e ds = true := niceAll_iff.mpr fun d hd => (h d hd).1
  have b : PyData.depthAll ds ≤ m := depthAll_le.mpr fun d hd => (h d hd).2
  refine ⟨⟨by simpa only [nice] using a, by simp only [wt]; omega, by simp only [PyData.depth]; omega⟩, ⟨by simpa only [nice] using a, by simp only [wt]; omega, by simp only [PyData.depth]; omega⟩⟩

/-! ### odd things, things bent -/
def oddD : List PyData := [.none, .bool true, .bool false, .int 0, .int 1, .int 2, .int (-1), .int 7, .int (10 ^ 40), .str "", .str "0", .str "named", .str "wait", .tuple [], .list [], .tuple [.int 0], .tuple [.int 1], .list [.int 0], .tuple [.int 0, .int 0]]
def oddE : List PyData := [.tuple [.bool true], .tuple [.int 0, .int 1], .tuple [.int 0, .int 1, .tuple [.int 0]], .tuple [.tuple [.int 0], .int 0], .tuple [.tuple [], .tuple []], .tuple [.int 0, .list [.int 1]], .tuple [.tuple [.int 0, .int 1], .tuple [.int 1, .int 1]]]
theorem odd_tiny : ∀ d ∈ oddD ++ oddE, Tiny 140 12 4 d := by
  have h : ∀ d ∈ oddD ++ oddE, (nice 140 d && decide (wt d ≤ 12) && decide (d.depth ≤ 4)) = true := by
    intro d hd
    simp only [oddD, oddE, List.cons_append, List.nil_append, List.mem_cons, List.not_mem_nil, or_false] at hd
    rcases hd with h | h | h | h | h | h | h | h | h | h | h | h | h | h | h | h | h | h | h | h | h | h | h | h | h | h <;> (rw [h]; decide +kernel)
  intro d hd
  have q := h d hd
  simp only [Bool.and_eq_true, decide_eq_true_eq] at q
  exact ⟨q.1.1, q.1.2, q.2⟩
/-- on the way through a list of data: what has been made so far, behind a list that stands at la -/
structure Way (K : PySem.W.Frag) (p : Addr) (n : Nat) (la : Addr) (xs : List V) (H0 H : Hp) (vs : List V) (ds : List PyData) : Prop where
  dk : Deck K H p n
  al : DpAll K (off p H) vs ds
  la : H la = some (.lst xs)
  kp : Keep p H0 H
section
variable {K : PySem.W.Frag} {p la t : Addr} {n : Nat} {xs vs us : List V} {ds es : List PyData} {H0 H : Hp}
theorem Way.step {o : HO} (w : Way K p n la xs H0 H vs ds) (h : H t = none) : Way K p n la xs H0 (upd H t o) vs ds :=
  ⟨w.dk.put h, Keep.all (Keep.new h) w.al, by rw [upd_ne (ne_of_none w.la h)]; exact w.la, w.kp.trans (Keep.new h)⟩
theorem Way.tup (w : Way K p n la xs H0 H vs ds) (h : H t = none) (a : DpAll K (off p H) us es) : Dt K p (upd H t (.tup us)) (.ref t) (.tuple es) := dt_tup (w.dk.ne_new h) h a
theorem Way.lst (w : Way K p n la xs H0 H vs ds) (h : H t = none) (a : DpAll K (off p H) us es) : Dt K p (upd H t (.lst us)) (.ref t) (.list es) := dt_lst (w.dk.ne_new h) h a
theorem Way.add {v : V} {d : PyData} (w : Way K p n la xs H0 H vs ds) (a : Dt K p H v d) : Way K p n la xs H0 H (vs ++ [v]) (ds ++ [d]) := ⟨w.dk, dpAll_snoc w.al a, w.la, w.kp⟩
end
def sp_odd (K : PySem.W.Frag) : Sp := fun vs H Q _ => ∃ (p : Addr) (n : Nat), vs = [.ref p] ∧ Deck K H p n ∧ n < 900000 ∧
  ∀ (v : V) (d : PyData) (J : Hp), Dt K p J v d → Tiny 140 12 4 d → Deck K J p (n + 1) → Keep p H J → Q v J
section
variable {P : Program} {w : World} {K : PySem.W.Frag} {mg : Str → Option Value} {base : Heap}
theorem ok_odd (T : Txt K mg) : FnOk P w K mg base CX0 3 T.a_odd T.d_odd ["_law_deck_here"] (sp_odd K) := by
  have G_one : FnOk P w K mg base CX0 2 T.a_one T.d_one ["_law_deck_here", "_law_items"] (sp_one K) := ok_one T
  refine T.F_odd.ok sc_odd (fun vs H Q E h => ?_) (fun cdv A outer s H vs Q E hr h => ?_)
  · obtain ⟨p, n, rfl, _⟩ := h
    rfl
  · obtain ⟨p, n, rfl, D, hn, k⟩ := h
    refine ⟨_, (pss_cons (ps_set (i := 1) sc_odd.nd rfl (Or.inl rfl) (pe_lst (pa_cons pe_non (pa_cons pe_bl (pa_cons pe_bl (pa_cons pe_int (pa_cons pe_int (pa_cons pe_int (pa_cons (pe_un un_neg pe_int) (pa_cons pe_int (pa_cons (pe_op op_pow pe_int pe_int) (pa_cons pe_str (pa_cons pe_str (pa_cons pe_str (pa_cons pe_str (pa_cons (pe_tup pa_nil) (pa_cons (pe_lst pa_nil) (pa_cons (pe_tup (pa_cons pe_int pa_nil)) (pa_cons (pe_tup (pa_cons pe_int pa_nil)) (pa_cons (pe_lst (pa_cons pe_int pa_nil)) (pa_cons (pe_tup (pa_cons pe_int (pa_cons pe_int pa_nil))) pa_nil)))))))))))))))))))))
      (pss_one (ps_ret (pe_call G_one (hr.mono (by omega)) (by rfl) T.g_one T.F_one.kp T.b_one .nil pass0 (pa_cons (pv 0) (pa_cons (pe_op op_cat (pv 1) (pe_lst (pa_cons (pe_tup (pa_cons pe_bl pa_nil)) (pa_cons (pe_tup (pa_cons pe_int (pa_cons pe_int pa_nil))) (pa_cons (pe_tup (pa_cons pe_int (pa_cons pe_int (pa_cons (pe_tup (pa_cons pe_int pa_nil)) pa_nil)))) (pa_cons (pe_tup (pa_cons (pe_tup (pa_cons pe_int pa_nil)) (pa_cons pe_int pa_nil))) (pa_cons (pe_tup (pa_cons (pe_tup pa_nil) (pa_cons (pe_tup pa_nil) pa_nil))) (pa_cons (pe_tup (pa_cons pe_int (pa_cons (pe_lst (pa_cons pe_int pa_nil)) pa_nil))) (pa_cons (pe_tup (pa_cons (pe_tup (pa_cons pe_int (pa_cons pe_int pa_nil))) (pa_cons (pe_tup (pa_cons pe_int (pa_cons pe_int pa_nil))) pa_nil))) pa_nil))))))))) pa_nil)))))), ?_⟩
    have a0 : DpAll K (off p H) [.non, .bl true, .bl false, .int 0, .int 1, .int 2, .int (-1), .int 7, .int (10 ^ 40), .str "", .str "0", .str "named", .str "wait"] (oddD.take 13) :=
      .cons .non (.cons (.bl _) (.cons (.bl _) (.cons (.int _) (.cons (.int _) (.cons (.int _) (.cons (.int _) (.cons (.int _) (.cons (.int _) (.cons (.str _) (.cons (.str _) (.cons (.str _) (.cons (.str _) .nil))))))))))))
    refine ⟨1, rfl, 10, 40, rfl, rfl, ⟨by decide, by decide, by decide⟩, by show 0 ≤ sizeLine; decide, fun t1 h1 => ?_⟩
    have D1 := D.put (o := .tup []) h1
    have b1 := dpAll_snoc (Keep.all (Keep.new h1) a0) (dt_tup (D.ne_new h1) h1 .nil)
    refine ⟨by show 0 ≤ sizeLine; decide, fun t2 h2 => ?_⟩
    have D2 := D1.put (o := .lst []) h2
    have b2 := dpAll_snoc (Keep.all (Keep.new h2) b1) (dt_lst (D1.ne_new h2) h2 .nil)
    refine ⟨by show 1 ≤ sizeLine; decide, fun t3 h3 => ?_⟩
    have D3 := D2.put (o := .tup [.int 0]) h3
    have b3 := dpAll_snoc (Keep.all (Keep.new h3) b2) (dt_tup (D2.ne_new h3) h3 (.cons (.int 0) .nil))
    refine ⟨by show 1 ≤ sizeLine; decide, fun t4 h4 => ?_⟩
    have D4 := D3.put (o := .tup [.int 1]) h4
    have b4 := dpAll_snoc (Keep.all (Keep.new h4) b3) (dt_tup (D3.ne_new h4) h4 (.cons (.int 1) .nil))
    refine ⟨by show 1 ≤ sizeLine; decide, fun t5 h5 => ?_⟩
    have D5 := D4.put (o := .lst [.int 0]) h5
    have b5 := dpAll_snoc (Keep.all (Keep.new h5) b4) (dt_lst (D4.ne_new h5) h5 (.cons (.int 0) .nil))
    refine ⟨by show 2 ≤ sizeLine; decide, fun t6 h6 => ?_⟩
    have D6 := D5.put (o := .tup [.int 0, .int 0]) h6
    have b6 := dpAll_snoc (Keep.all (Keep.new h6) b5) (dt_tup (D5.ne_new h6) h6 (.cons (.int 0) (.cons (.int 0) .nil)))
    refine ⟨by show 19 ≤ sizeLine; decide, fun la hla => ?_⟩
    have b7 := Keep.all (Keep.new (p := p) hla (o := .lst [.non, .bl true, .bl false, .int 0, .int 1, .int 2, .int (-1), .int 7, .int (10 ^ 40), .str "", .str "0", .str "named", .str "wait", .ref t1, .ref t2, .ref t3, .ref t4, .ref t5, .ref t6])) b6
    have K7 := (((((((Keep.new (p := p) (o := .tup []) h1).trans (Keep.new (o := .lst []) h2)).trans (Keep.new (o := .tup [.int 0]) h3)).trans (Keep.new (o := .tup [.int 1]) h4)).trans (Keep.new (o := .lst [.int 0]) h5)).trans (Keep.new (o := .tup [.int 0, .int 0]) h6)).trans (Keep.new (o := .lst [.non, .bl true, .bl false, .int 0, .int 1, .int 2, .int (-1), .int 7, .int (10 ^ 40), .str "", .str "0", .str "named", .str "wait", .ref t1, .ref t2, .ref t3, .ref t4, .ref t5, .ref t6]) hla))
    have w7 : Way K p n la _ H _ _ _ := ⟨D6.put hla, b7, upd_same, K7⟩
    refine ⟨_, rfl, _, rfl, by show 1 ≤ sizeLine; decide, fun t7 h7 => ?_⟩
    have w8 := (w7.step h7 (o := .tup [.bl true])).add (w7.tup h7 (.cons (.bl true) .nil))
    refine ⟨by show 2 ≤ sizeLine; decide, fun t8 h8 => ?_⟩
    have w9 := (w8.step h8 (o := .tup [.int 0, .int 1])).add (w8.tup h8 (.cons (.int 0) (.cons (.int 1) .nil)))
    refine ⟨by show 1 ≤ sizeLine; decide, fun t9 h9 => ?_⟩
    have w10 := w9.step h9 (o := .tup [.int 0])
    have i10 := w9.tup h9 (.cons (.int 0) .nil)
    refine ⟨by show 3 ≤ sizeLine; decide, fun t10 h10 => ?_⟩
    have w11 := (w10.step h10 (o := .tup [.int 0, .int 1, .ref t9])).add (w10.tup h10 (.cons (.int 0) (.cons (.int 1) (.cons i10 .nil))))
    refine ⟨by show 1 ≤ sizeLine; decide, fun t11 h11 => ?_⟩
    have w12 := w11.step h11 (o := .tup [.int 0])
    have i12 := w11.tup h11 (.cons (.int 0) .nil)
    refine ⟨by show 2 ≤ sizeLine; decide, fun t12 h12 => ?_⟩
    have w13 := (w12.step h12 (o := .tup [.ref t11, .int 0])).add (w12.tup h12 (.cons i12 (.cons (.int 0) .nil)))
    refine ⟨by show 0 ≤ sizeLine; decide, fun t13 h13 => ?_⟩
    have w14 := w13.step h13 (o := .tup [])
    have i14 := w13.tup h13 .nil
    refine ⟨by show 0 ≤ sizeLine; decide, fun t14 h14 => ?_⟩
    have w15 := w14.step h14 (o := .tup [])
    have i15 := Keep.dt (Keep.new h14 (o := .tup [])) i14
    have j15 := w14.tup h14 .nil
    refine ⟨by show 2 ≤ sizeLine; decide, fun t15 h15 => ?_⟩
    have w16 := (w15.step h15 (o := .tup [.ref t13, .ref t14])).add (w15.tup h15 (.cons i15 (.cons j15 .nil)))
    refine ⟨by show 1 ≤ sizeLine; decide, fun t16 h16 => ?_⟩
    have w17 := w16.step h16 (o := .lst [.int 1])
    have i17 := w16.lst h16 (.cons (.int 1) .nil)
    refine ⟨by show 2 ≤ sizeLine; decide, fun t17 h17 => ?_⟩
    have w18 := (w17.step h17 (o := .tup [.int 0, .ref t16])).add (w17.tup h17 (.cons (.int 0) (.cons i17 .nil)))
    refine ⟨by show 2 ≤ sizeLine; decide, fun t18 h18 => ?_⟩
    have w19 := w18.step h18 (o := .tup [.int 0, .int 1])
    have i19 := w18.tup h18 (.cons (.int 0) (.cons (.int 1) .nil))
    refine ⟨by show 2 ≤ sizeLine; decide, fun t19 h19 => ?_⟩
    have w20 := w19.step h19 (o := .tup [.int 1, .int 1])
    have i20 := Keep.dt (Keep.new h19 (o := .tup [.int 1, .int 1])) i19
    have j20 := w19.tup h19 (.cons (.int 1) (.cons (.int 1) .nil))
    refine ⟨by show 2 ≤ sizeLine; decide, fun t20 h20 => ?_⟩
    have w21 := (w20.step h20 (o := .tup [.ref t18, .ref t19])).add (w20.tup h20 (.cons i20 (.cons j20 .nil)))
    refine ⟨by show 7 ≤ sizeLine; decide, fun lb hlb => ?_⟩
    have w22 := w21.step hlb (o := .lst [.ref t7, .ref t8, .ref t10, .ref t12, .ref t15, .ref t17, .ref t20])
    refine ⟨la, lb, _, _, rfl, rfl, w22.la, upd_same, by show 26 ≤ sizeLine; decide, fun lc hlc => ?_⟩
    have w23 := w22.step hlc (o := .lst [.non, .bl true, .bl false, .int 0, .int 1, .int 2, .int (-1), .int 7, .int (10 ^ 40), .str "", .str "0", .str "named", .str "wait", .ref t1, .ref t2, .ref t3, .ref t4, .ref t5, .ref t6, .ref t7, .ref t8, .ref t10, .ref t12, .ref t15, .ref t17, .ref t20])
    refine ⟨p, lc, _, n, rfl, SqL.of upd_same, w22.dk.ne_new hlc, by show 0 < 26; decide, by show 26 < 100000; decide, w23.dk, by omega, fun i x J hx DJ KJ => ?_⟩
    obtain ⟨d, hd, xd⟩ := dpAll_get w23.al hx
    exact k x d J (KJ.dt xd) (odd_tiny d (List.mem_of_getElem? hd)) DJ (w23.kp.trans KJ)
end

/-! ### things bent -/
/-- small behind a bending -/
structure Bent (e : Nat) (d d' : PyData) : Prop where
  ni : nice (e + 1) d' = true
  we : wt d' ≤ 2 * wt d + 40
  de : d'.depth ≤ d.depth + 4
theorem Bent.tup {e : Nat} {ds es : List PyData} (h1 : niceAll (e + 1) es = true) (h2 : wtAll es ≤ 2 * wtAll ds + 40) (h3 : PyData.depthAll es ≤ PyData.depthAll ds + 4) : Bent e (.tuple ds) (.tuple es) :=
  ⟨by simpa only [nice] using h1, by simp only [wt]; omega, by simp only [PyData.depth]; omega⟩
def sp_bent (K : PySem.W.Frag) (M : Nat) : Sp := fun vs H Q _ => ∃ (p : Addr) (v : V) (d : PyData) (m : Int) (n e : Nat), vs = [.ref p, v, .int m] ∧ Dt K p H v d ∧ nice e d = true ∧ 140 ≤ e ∧ e < 1800 ∧ wt d < 100000 ∧ d.depth ≤ 40 ∧ 0 ≤ m ∧ m < (M : Int) ∧
  Deck K H p n ∧ n + 4 * M < 800000 ∧ ∀ (v' : V) (d' : PyData) (J : Hp) (n' : Nat), Dt K p J v' d' → Bent e d d' → n' ≤ n + 4 * M → Deck K J p n' → Keep p H J → Q v' J
section
variable {P : Program} {w : World} {K : PySem.W.Frag} {mg : Str → Option Value} {base : Heap}
theorem ok_bent (T : Txt K mg) : ∀ M : Nat, FnOk P w K mg base CX0 (3 + M) T.a_bent T.d_bent ["_law_deck_here", "_law_thing", "_law_deep"] (sp_bent K M)
  | 0 => by
    refine ⟨fun vs H Q E h => ?_, fun A outer s H args us vs Q E hr he hb hv h => ?_⟩
    · obtain ⟨p, v, d, m, n, e, rfl, _⟩ := h
      rfl
    · obtain ⟨p, v, d, m, n, e, rfl, _, _, _, _, _, _, m0, m1, _⟩ := h
      exact absurd m1 (by omega)
  | M + 1 => by
    have G_draw : FnOk P w K mg base CX0 1 T.a_draw T.d_draw ["_law_deck_here", "_law_many"] (sp_draw K) := ok_draw T
    have G_one : FnOk P w K mg base CX0 2 T.a_one T.d_one ["_law_deck_here", "_law_items"] (sp_one K) := ok_one T
    have G_odd : FnOk P w K mg base CX0 3 T.a_odd T.d_odd ["_law_deck_here"] (sp_odd K) := ok_odd T
    have G_bent := ok_bent T M
    refine Fun.ok (k := 3 + M) T.F_bent sc_bent (fun vs H Q E h => ?_) (fun cdv A outer s H vs Q E hr h => ?_)
    · obtain ⟨p, v, d, m, n, e, rfl, _⟩ := h
      rfl
    · obtain ⟨p, v, d, m, n, e, rfl, hd, hni, e0, e1, hw, hdep, m0, m1, D, hn, k⟩ := h
      refine ⟨_, (pss_cons (ps_if (pt_cut (PW.pt (pw_or (pt_not (pt_val (pe_callB (id := "isinstance") (call_isD "tuple" (by decide)) (by rfl) T.m_isinstance (by decide +kernel) (pa_cons (pv 1) (pa_cons (pe_bltn (v := .ty "tuple") (by rfl) T.m_tuple (by decide +kernel) rfl) pa_nil))))) (pw_or (pt_cmpR (op_eqD hr.units) (pv 1) (pe_tup pa_nil) (nomark _)) (pw_or (pt_cmpR op_eq (pv 2) pe_int (nomark _)) (pw_or1 (pt_cmpR op_eq (pe_call G_draw (hr.mono (by omega)) (by rfl) T.g_draw T.F_draw.kp T.b_draw .nil pass0 (pa_cons (pv 0) (pa_cons pe_int pa_nil))) pe_int (nomark _))))))))
        (pss_cons (ps_if (pt_cut (PW.pt (pw_and (pt_val (pe_callB (id := "isinstance") (call_isD "int" (by decide)) (by rfl) T.m_isinstance (by decide +kernel) (pa_cons (pv 1) (pa_cons (pe_bltn (v := .ty "int") (by rfl) T.m_int (by decide +kernel) rfl) pa_nil)))) (pw_and (pt_not (pt_val (pe_callB (id := "isinstance") (call_isD "bool" (by decide)) (by rfl) T.m_isinstance (by decide +kernel) (pa_cons (pv 1) (pa_cons (pe_bltn (v := .ty "bool") (by rfl) T.m_bool (by decide +kernel) rfl) pa_nil))))) (pw_and1 (pt_cmpR op_eq (pe_call G_draw (hr.mono (by omega)) (by rfl) T.g_draw T.F_draw.kp T.b_draw .nil pass0 (pa_cons (pv 0) (pa_cons pe_int pa_nil))) pe_int (nomark _)))))))
        (pss_one (ps_ret (pe_op op_add (pv 1) (pe_call G_one (hr.mono (by omega)) (by rfl) T.g_one T.F_one.kp T.b_one .nil pass0 (pa_cons (pv 0) (pa_cons (pe_lst (pa_cons pe_int (pa_cons (pe_un un_neg pe_int) (pa_cons pe_int (pa_cons (pe_op op_sub pe_int (pv 1)) pa_nil))))) pa_nil))))))
        pss_nil)
      (pss_one (ps_ret (pe_call G_odd (hr.mono (by omega)) (by rfl) T.g_odd T.F_odd.kp T.b_odd .nil pass0 (pa_cons (pv 0) pa_nil)))))
        pss_nil)
      (pss_cons (ps_par (i := 3) (j := 4) (by rfl) sc_bent.nd rfl rfl (by decide) rfl rfl (pa_cons (pe_call G_draw (hr.mono (by omega)) (by rfl) T.g_draw T.F_draw.kp T.b_draw .nil pass0 (pa_cons (pv 0) (pa_cons (pe_callB (id := "len") call_len_seq (by rfl) T.m_len (by decide +kernel) (pa_cons (pv 1) pa_nil)) pa_nil))) (pa_cons (pe_call G_draw (hr.mono (by omega)) (by rfl) T.g_draw T.F_draw.kp T.b_draw .nil pass0 (pa_cons (pv 0) (pa_cons pe_int pa_nil))) pa_nil)) (by rfl))
      (pss_cons (ps_if (pt_cmpR op_eq (pv 4) pe_int (nomark _))
        (pss_one (ps_ret (pe_op op_catS (pe_slice sl_tupS (pv 1) po_none (po_some (pv 3))) (pe_slice sl_tupS (pv 1) (po_some (pe_op op_add (pv 3) pe_int)) po_none))))
        pss_nil)
      (pss_cons (ps_if (pt_cmpR op_eq (pv 4) pe_int (nomark _))
        (pss_one (ps_ret (pe_op op_catS (pe_op op_catS (pe_slice sl_tupS (pv 1) po_none (po_some (pv 3))) (pe_tup (pa_cons (pe_ix ix_tup (pv 1) (pv 3) (fun _ _ => rfl)) pa_nil))) (pe_slice sl_tupS (pv 1) (po_some (pv 3)) po_none))))
        pss_nil)
      (pss_cons (ps_if (pt_cmpR op_eq (pv 4) pe_int (nomark _))
        (pss_one (ps_ret (pe_revT (pv 1))))
        pss_nil)
      (pss_cons (ps_if (pt_cmpR op_eq (pv 4) pe_int (nomark _))
        (pss_one (ps_ret (pe_callTy (T := "list") call_list_of (by rfl) T.m_list (by decide +kernel) (pa_cons (pv 1) pa_nil))))
        pss_nil)
      (pss_one (ps_ret (pe_op op_catS (pe_op op_catS (pe_slice sl_tupS (pv 1) po_none (po_some (pv 3))) (pe_tup (pa_cons (pe_call G_bent (hr.mono (by omega)) (by rfl) T.g_bent T.F_bent.kp T.b_bent .nil pass0 (pa_cons (pv 0) (pa_cons (pe_ix ix_tup (pv 1) (pv 3) (fun _ _ => rfl)) (pa_cons (pe_op op_sub (pv 2) pe_int) pa_nil)))) pa_nil))) (pe_slice sl_tupS (pv 1) (po_some (pe_op op_add (pv 3) pe_int)) po_none)))))))))), ?_⟩
      have shp : SeqAt.shaped d = true := nice_shaped hni (by omega)
      -- nothing to go into
      refine ⟨fun b J => (b = false → ∃ ds, d = .tuple ds ∧ ds ≠ [] ∧ 0 < m) ∧ ∃ n1, n1 ≤ n + 1 ∧ Deck K J p n1 ∧ Keep p H J, ?_, ?_⟩
      · refine ⟨_, rfl, v, d, rfl, dpSame off_in d v hd, _, rfl, ?_⟩
        refine ite2 (fun _ => ⟨(fun z => nomatch z), n, by omega, D, Keep.refl p H⟩) (fun ht => ?_)
        obtain ⟨ds, rfl⟩ := isA_tup (d := d) (by simpa using ht)
        refine ⟨_, rfl, by show 0 ≤ sizeLine; decide, fun q hq => ?_⟩
        have kq : Keep p H (upd H q (.tup [])) := Keep.new hq
        have Dq := D.put (o := .tup []) hq
        refine ⟨.tuple ds, .tuple [], dpSame off_in _ v (kq.dt hd), .tup (SqT.of upd_same) .nil, shp, by decide, _, rfl, ?_⟩
        refine ite2 (fun _ => ⟨(fun z => nomatch z), n, by omega, Dq, kq⟩) (fun hne => ?_)
        have hds : ds ≠ [] := fun z => hne (by rw [z]; simp [PyData.eqv, PyData.eqvAll])
        refine ⟨_, rfl, rfl, _, rfl, ?_⟩
        refine ite2 (fun _ => ⟨(fun z => nomatch z), n, by omega, Dq, kq⟩) (fun hm => ?_)
        have mp : 0 < m := by
          have : ¬ m = 0 := fun z => hm (decide_eq_true (by rw [z]))
          omega
        refine ⟨_, rfl, p, 7, n, rfl, by decide, by decide, Dq, by omega, fun r J _ _ DJ KJ => ⟨rfl, _, rfl, fun _ => ⟨ds, rfl, hds, mp⟩, n + 1, Nat.le_refl _, DJ, kq.trans KJ⟩⟩
      · rintro b H1 ⟨hb, n1, hn1, D1, K1⟩
        have hd1 := K1.dt hd
        cases b with
        | true =>
          refine iteT ?_
          refine ⟨fun b J => (b = true → ∃ i, d = .int i) ∧ ∃ n2, n2 ≤ n1 + 1 ∧ Deck K J p n2 ∧ Keep p H J, ?_, ?_⟩
          · refine ⟨_, rfl, v, d, rfl, dpSame off_in d v hd1, _, rfl, ?_⟩
            refine ite2 (fun hi => ?_) (fun _ => ⟨(fun z => nomatch z), n1, by omega, D1, K1⟩)
            refine ⟨_, rfl, v, d, rfl, dpSame off_in d v hd1, _, rfl, ?_⟩
            refine ite2 (fun hnb => ?_) (fun _ => ⟨(fun z => nomatch z), n1, by omega, D1, K1⟩)
            refine ⟨_, rfl, p, 2, n1, rfl, by decide, by decide, D1, by omega, fun r J _ _ DJ KJ => ⟨rfl, _, rfl, fun _ => isA_int hi (by simpa using hnb), n1 + 1, Nat.le_refl _, DJ, K1.trans KJ⟩⟩
          · rintro b H2 ⟨hb2, n2, hn2, D2, K2⟩
            cases b with
            | true =>
              obtain ⟨i, rfl⟩ := hb2 rfl
              have hv : v = .int i := by cases hd; rfl
              subst hv
              have hi : i.natAbs < 2 ^ e := by simpa [nice] using hni
              have p2 : 2 ≤ 2 ^ e := Nat.le_trans (by decide : 2 ≤ 2 ^ 1) (Nat.pow_le_pow_right (by decide) (by omega))
              have pe : 2 ^ (e + 1) = 2 ^ e * 2 := Nat.pow_succ 2 e
              refine iteT ⟨_, rfl, _, rfl, 1, rfl, _, rfl, _, _, rfl, rfl, by show 4 ≤ sizeLine; decide, fun l hl => ?_⟩
              refine ⟨p, l, _, n2, rfl, SqL.of upd_same, D2.ne_new hl, by show 0 < 4; decide, by show 4 < 100000; decide, D2.put hl, by omega, fun j x J hx DJ KJ => ?_⟩
              obtain ⟨y, rfl, hy⟩ : ∃ y : Int, x = .int y ∧ (y.natAbs ≤ 2 ∨ y.natAbs ≤ i.natAbs) := by
                have m := List.mem_of_getElem? hx
                simp only [List.mem_cons, List.not_mem_nil, or_false] at m
                rcases m with m | m | m | m
                · exact ⟨_, m, .inl (by decide)⟩
                · exact ⟨_, m, .inl (by decide)⟩
                · exact ⟨_, m, .inl (by decide)⟩
                · exact ⟨_, m, .inr (by omega)⟩
              refine ⟨_, _, rfl, rfl, k _ (.int (i + y)) J (n2 + 1) (.int _) ⟨?_, by simp only [wt]; omega, by simp only [PyData.depth]; omega⟩ (by omega) DJ ((K2.trans (Keep.new hl)).trans KJ)⟩
              simp only [nice, decide_eq_true_eq]
              rw [pe]
              omega
            | false =>
              refine iteF ⟨_, rfl, p, n2, rfl, D2, by omega, fun v' d' J hd' td DJ KJ => ?_⟩
              exact k v' d' J (n2 + 1) hd' ⟨nice_more (by omega) d' td.ni, by have := td.we; omega, by have := td.de; omega⟩ (by omega) DJ (K2.trans KJ)
        | false =>
          obtain ⟨ds, rfl, hds, mp⟩ := hb rfl
          obtain ⟨a, xs, rfl, hx, hal⟩ := hd1.get
          have hlen : xs.length = ds.length := dpAll_len hal
          have hwA : wtAll ds < 100000 := by simp only [wt] at hw; omega
          have hlw := wtAll_len ds
          have l0 : 0 < ds.length := List.length_pos_iff.mpr hds
          have hnA : niceAll e ds = true := by simpa only [nice] using hni
          have hnA1 : niceAll (e + 1) ds = true := nice_moreAll (by omega) ds hnA
          have hdA : PyData.depthAll ds + 1 ≤ 40 := by simpa only [PyData.depth] using hdep
          have szl : 2 * ds.length + 10 ≤ sizeLine := Nat.le_trans (by omega : 2 * ds.length + 10 ≤ 200010) (by decide)
          refine iteF ⟨_, rfl, _, rfl, a, xs, rfl, .inr hx, p, _, n1, rfl, by omega, by omega, D1, by omega, fun r J r0 r1 DJ KJ => ?_⟩
          obtain ⟨j, rfl⟩ : ∃ j : Nat, r = (j : Int) := ⟨r.toNat, (Int.toNat_of_nonneg r0).symm⟩
          have hj : j < ds.length := by omega
          refine ⟨_, rfl, p, 10, n1 + 1, rfl, by decide, by decide, DJ, by omega, fun z H2 z0 z1 D2 KJ2 => ?_⟩
          have K12 : Keep p H1 H2 := KJ.trans KJ2
          have K2 : Keep p H H2 := K1.trans K12
          obtain ⟨_, _, _, _, hp1, _⟩ := id D1
          have hx2 : SqT K H2 a xs := sameT off_in (sameT K12.s (tup_off hp1 hx))
          have hal2 := K12.all hal
          obtain ⟨dj, hdj⟩ : ∃ dj, ds[j]? = some dj := ⟨_, List.getElem?_eq_getElem hj⟩
          have sp := split_at hdj
          have wsp : wtAll ds = wtAll (ds.take j) + (wt dj + wtAll (ds.drop (j + 1))) := by
            have z := congrArg wtAll sp
            rw [wtAll_append] at z
            simpa only [wtAll] using z
          have nsp : niceAll (e + 1) (ds.take j) = true ∧ niceAll (e + 1) (ds.drop (j + 1)) = true := by
            have z := hnA1
            rw [sp, niceAll_append, Bool.and_eq_true] at z
            simp only [niceAll, Bool.and_eq_true] at z
            exact ⟨z.1, z.2.2⟩
          have ndj : nice e dj = true := niceAll_iff.mp hnA dj (List.mem_of_getElem? hdj)
          have dsp : PyData.depthAll ds = max (PyData.depthAll (ds.take j)) (max dj.depth (PyData.depthAll (ds.drop (j + 1)))) := by
            have z := congrArg PyData.depthAll sp
            rw [depthAll_append] at z
            simpa only [PyData.depthAll] using z
          have ct : cutV xs none (some (j : Int)) = xs.take j := cut_to xs j (by omega)
          have cf : cutV xs (some ((j : Int) + 1)) none = xs.drop (j + 1) := cut_from xs (j + 1) (by omega)
          have cf0 : cutV xs (some (j : Int)) none = xs.drop j := cut_from xs j (by omega)
          have tl : (xs.take j).length ≤ ds.length := by rw [List.length_take]; omega
          have dl : ∀ i, (xs.drop i).length ≤ ds.length := fun i => by rw [List.length_drop]; omega
          refine ⟨_, _, rfl, ?_⟩
          -- one left out
          refine ⟨_, rfl, rfl, _, rfl, ite2 (fun _ => ?_) (fun _ => ?_)⟩
          · refine ⟨_, rfl, _, rfl, _, rfl, a, xs, rfl, hx2, fun t1 J1 c1 s1 => ?_⟩
            refine ⟨_, rfl, _, rfl, _, _, rfl, rfl, _, rfl, a, xs, rfl, sameT s1 hx2, fun t2 J2 c2 s2 => ?_⟩
            rw [ct] at c1
            rw [cf] at c2
            have dl' := dl (j + 1)
            refine ⟨t1, t2, _, _, rfl, rfl, sameT s2 c1, c2, by omega, fun t J3 c3 s3 => ?_⟩
            have S3 := (s1.trans s2).trans s3
            have KS : Keep p H2 J3 := Keep.of_same S3
            refine k _ _ J3 (n1 + 2) (dt_of (D2.of_same S3) c3 (dpAll_append (dpAll_take j (KS.all hal2)) (dpAll_drop (j + 1) (KS.all hal2)))) (Bent.tup ?_ ?_ ?_) (by omega) (D2.of_same S3) (K2.trans KS)
            · rw [niceAll_append, nsp.1, nsp.2]
              rfl
            · rw [wtAll_append]
              omega
            · rw [depthAll_append]
              omega
          -- one told twice
          refine ⟨_, rfl, rfl, _, rfl, ite2 (fun _ => ?_) (fun _ => ?_)⟩
          · obtain ⟨xj, hxj⟩ : ∃ xj, xs[j]? = some xj := ⟨_, List.getElem?_eq_getElem (by omega)⟩
            refine ⟨_, rfl, _, rfl, _, rfl, a, xs, rfl, hx2, fun t1 J1 c1 s1 => ?_⟩
            refine ⟨_, rfl, _, rfl, a, xs, (j : Int), xj, rfl, rfl, sameT s1 hx2, atI_nat hxj, by show 1 ≤ sizeLine; decide, fun t2 h2 => ?_⟩
            have s2 : Same J1 (upd J1 t2 (.tup [xj])) := same_new h2
            rw [ct] at c1
            refine ⟨t1, t2, _, _, rfl, rfl, sameT s2 c1, SqT.of upd_same, by rw [List.length_singleton]; omega, fun t3 J3 c3 s3 => ?_⟩
            refine ⟨_, rfl, _, rfl, _, rfl, a, xs, rfl, sameT ((s1.trans s2).trans s3) hx2, fun t4 J4 c4 s4 => ?_⟩
            rw [cf0] at c4
            have dl' := dl j
            refine ⟨t3, t4, _, _, rfl, rfl, sameT s4 c3, c4, by rw [List.length_append, List.length_singleton]; omega, fun t J5 c5 s5 => ?_⟩
            have S5 := ((((s1.trans s2).trans s3).trans s4).trans s5)
            have KS : Keep p H2 J5 := Keep.of_same S5
            have al5 := KS.all hal2
            obtain ⟨dj', hdj', xdj⟩ := dpAll_get al5 hxj
            have ej : dj' = dj := Option.some.inj (hdj'.symm.trans hdj)
            rw [ej] at xdj
            have dr : ds.drop j = dj :: ds.drop (j + 1) := by
              rw [← List.getElem_cons_drop hj]
              exact congrArg (· :: _) (List.getElem?_eq_some_iff.mp hdj).2
            have dd := al5
            refine k _ _ J5 (n1 + 2) (dt_of (D2.of_same S5) c5 (dpAll_append (dpAll_append (dpAll_take j al5) (.cons xdj .nil)) (dpAll_drop j al5))) (Bent.tup ?_ ?_ ?_) (by omega) (D2.of_same S5) (K2.trans KS)
            · rw [niceAll_append, niceAll_append, dr, nsp.1]
              simp only [niceAll, nsp.2, nice_more (by omega : e ≤ e + 1) dj ndj, Bool.and_self]
            · rw [wtAll_append, wtAll_append, dr]
              simp only [wtAll]
              omega
            · rw [depthAll_append, depthAll_append, dr]
              simp only [PyData.depthAll]
              omega
          -- turned about
          refine ⟨_, rfl, rfl, _, rfl, ite2 (fun _ => ?_) (fun _ => ?_)⟩
          · refine ⟨_, rfl, a, xs, rfl, hx2, fun t ht => ?_⟩
            have KS : Keep p H2 (upd H2 t (.tup xs.reverse)) := Keep.new ht
            refine k _ _ _ (n1 + 2) (dt_of (D2.put ht) (SqT.of upd_same) (dpAll_reverse (KS.all hal2))) (Bent.tup (niceAll_reverse hnA1) ?_ ?_) (by omega) (D2.put ht) (K2.trans KS)
            · rw [wtAll_reverse]
              omega
            · rw [depthAll_reverse]
              omega
          -- a list
          refine ⟨_, rfl, rfl, _, rfl, ite2 (fun _ => ?_) (fun _ => ?_)⟩
          · refine ⟨_, rfl, a, xs, rfl, .inr hx2, fun t ht => ?_⟩
            refine k _ (.list ds) _ (n1 + 2) (dt_lst (D2.ne_new ht) ht hal2) ⟨by simpa only [nice] using hnA1, by simp only [wt]; omega, by simp only [PyData.depth]; omega⟩ (by omega) (D2.put ht) (K2.trans (Keep.new ht))
          -- one bent in its turn
          · obtain ⟨xj, hxj⟩ : ∃ xj, xs[j]? = some xj := ⟨_, List.getElem?_eq_getElem (by omega)⟩
            refine ⟨_, rfl, _, rfl, _, rfl, a, xs, rfl, hx2, fun t1 J1 c1 s1 => ?_⟩
            have D3 := D2.of_same s1
            have K3 : Keep p H2 J1 := Keep.of_same s1
            obtain ⟨dj', hdj', xdj⟩ := dpAll_get (K3.all hal2) hxj
            have ej : dj' = dj := Option.some.inj (hdj'.symm.trans hdj)
            rw [ej] at xdj
            rw [ct] at c1
            refine ⟨_, rfl, _, rfl, _, rfl, a, xs, (j : Int), xj, rfl, rfl, sameT s1 hx2, atI_nat hxj, _, rfl, _, _, rfl, rfl, ?_⟩
            refine ⟨p, xj, dj, m - 1, n1 + 2, e, rfl, xdj, ndj, e0, e1, by omega, by omega, by omega, by omega, D3, by omega, fun v' d' J2 n' hd' bd hn' D4 K4 => ?_⟩
            refine ⟨by show 1 ≤ sizeLine; decide, fun t2 h2 => ?_⟩
            obtain ⟨_, _, _, _, hp3, _⟩ := id D3
            have c1' : SqT K J2 t1 (xs.take j) := sameT off_in (sameT K4.s (tup_off hp3 c1))
            have hx4 : SqT K J2 a xs := sameT off_in (sameT K4.s (tup_off hp3 (sameT s1 hx2)))
            have s2 : Same J2 (upd J2 t2 (.tup [v'])) := same_new h2
            refine ⟨t1, t2, _, _, rfl, rfl, sameT s2 c1', SqT.of upd_same, by rw [List.length_singleton]; omega, fun t3 J3 c3 s3 => ?_⟩
            refine ⟨_, rfl, _, rfl, _, _, rfl, rfl, _, rfl, a, xs, rfl, sameT (s2.trans s3) hx4, fun t4 J4 c4 s4 => ?_⟩
            rw [cf] at c4
            have dl' := dl (j + 1)
            refine ⟨t3, t4, _, _, rfl, rfl, sameT s4 c3, c4, by rw [List.length_append, List.length_singleton]; omega, fun t J5 c5 s5 => ?_⟩
            have S5 := (((s2.trans s3).trans s4).trans s5)
            have KS : Keep p J2 J5 := Keep.of_same S5
            have al5 := KS.all (K4.all (K3.all hal2))
            refine k _ _ J5 n' (dt_of (D4.of_same S5) c5 (dpAll_append (dpAll_append (dpAll_take j al5) (.cons (KS.dt hd') .nil)) (dpAll_drop (j + 1) al5))) (Bent.tup ?_ ?_ ?_) (by omega) (D4.of_same S5) (((K2.trans K3).trans K4).trans KS)
            · rw [niceAll_append, niceAll_append, nsp.1, nsp.2]
              simp only [niceAll, bd.ni, Bool.and_self]
            · have := bd.we
              rw [wtAll_append, wtAll_append]
              simp only [wtAll]
              omega
            · have := bd.de
              rw [depthAll_append, depthAll_append]
              simp only [PyData.depthAll]
              omega
end

/-! ### kinds of values, by the data -/
def wholeD (lo hi : Int) : PyData → Bool
  | .int i => decide (lo ≤ i) && decide (i ≤ hi)
  | _ => false
theorem whole_int {lo hi : Int} {d : PyData} (h : wholeD lo hi d = true) : ∃ i, d = .int i ∧ lo ≤ i ∧ i ≤ hi := by
  cases d <;> first | (exact ⟨_, rfl, by simpa [wholeD] using h⟩) | (exfalso; revert h; simp [wholeD])
theorem isA_whole {lo hi : Int} {d : PyData} (h : (isA "bool" d || !isA "int" d) = true) : wholeD lo hi d = false := by
  cases d <;> first | rfl | (exfalso; revert h; simp [isA, isS, kindD])
def sp_whole (K : PySem.W.Frag) : Sp := fun vs H Q _ => ∃ (v : V) (d : PyData) (lo hi : Int), vs = [v, .int lo, .int hi] ∧ Dp K H v d ∧ Q (.bl (wholeD lo hi d)) H
theorem isA_int_of {d : PyData} (h1 : ¬ isA "bool" d = true) (h2 : ¬ (!isA "int" d) = true) : ∃ i, d = .int i := by
  cases d <;> first | exact ⟨_, rfl⟩ | (exfalso; revert h1 h2; simp [isA, isS, kindD])
section
variable {P : Program} {w : World} {K : PySem.W.Frag} {mg : Str → Option Value} {base : Heap}
theorem ok_whole (T : Txt K mg) : FnOk P w K mg base CX0 1 T.a_whole T.d_whole ["value", "low", "high"] (sp_whole K) := by
  refine T.F_whole.ok sc_whole (fun vs H Q E h => ?_) (fun cdv A outer s H vs Q E hr h => ?_)
  · obtain ⟨v, d, lo, hi, rfl, _⟩ := h
    rfl
  · obtain ⟨v, d, lo, hi, rfl, hd, k⟩ := h
    refine ⟨_, (pss_cons (ps_if (PW.pt (pw_or (pt_val (pe_callB (id := "isinstance") (call_isD "bool" (by decide)) (by rfl) T.m_isinstance (by decide +kernel) (pa_cons (pv 0) (pa_cons (pe_bltn (v := .ty "bool") (by rfl) T.m_bool (by decide +kernel) rfl) pa_nil)))) (pw_or1 (pt_not (pt_val (pe_callB (id := "isinstance") (call_isD "int" (by decide)) (by rfl) T.m_isinstance (by decide +kernel) (pa_cons (pv 0) (pa_cons (pe_bltn (v := .ty "int") (by rfl) T.m_int (by decide +kernel) rfl) pa_nil))))))))
        (pss_one (ps_ret pe_bl))
        pss_nil)
      (pss_one (ps_ret (pe_chain op_le op_le (pv 1) (pv 0) (pv 2))))), ?_⟩
    refine ⟨_, rfl, v, d, rfl, hd, _, rfl, ite2 (fun hb => ?_) (fun hb => ?_)⟩
    · rw [isA_whole (by rw [hb]; rfl)] at k
      exact iteT k
    · refine ⟨_, rfl, v, d, rfl, hd, _, rfl, ite2 (fun hi' => ?_) (fun hi' => ?_)⟩
      · rw [isA_whole (by rw [hi', Bool.or_true])] at k
        exact k
      · obtain ⟨i, rfl⟩ := isA_int_of hb hi'
        cases hd
        refine ⟨_, rfl, _, rfl, lo, i, rfl, rfl, _, rfl, ?_⟩
        by_cases hl : lo ≤ i
        · rw [decide_eq_true hl]
          refine iteT ⟨_, rfl, i, hi, rfl, rfl, ?_⟩
          have e : wholeD lo hi (.int i) = decide (i ≤ hi) := by simp only [wholeD, decide_eq_true hl, Bool.true_and]
          rw [e] at k
          exact k
        · rw [decide_eq_false hl]
          refine iteF ?_
          have e : wholeD lo hi (.int i) = false := by simp only [wholeD, decide_eq_false hl, Bool.false_and]
          rw [e] at k
          exact k
end

/-! ### tuples of just so many -/
def tupD (n : Int) : PyData → Bool
  | .tuple ds => decide ((ds.length : Int) = n)
  | _ => false
theorem isA_tupD {d : PyData} (n : Int) (h : isA "tuple" d = false) : tupD n d = false := by
  cases d <;> first | rfl | (exfalso; revert h; simp [isA, isS, kindD])
def sp_tupleof (K : PySem.W.Frag) : Sp := fun vs H Q _ => ∃ (v : V) (d : PyData) (n : Int), vs = [v, .int n] ∧ Dp K H v d ∧ Q (.bl (tupD n d)) H
section
variable {P : Program} {w : World} {K : PySem.W.Frag} {mg : Str → Option Value} {base : Heap}
theorem ok_tupleof (T : Txt K mg) : FnOk P w K mg base CX0 1 T.a_tuple_of T.d_tuple_of ["value", "many"] (sp_tupleof K) := by
  refine T.F_tuple_of.ok sc_tuple_of (fun vs H Q E h => ?_) (fun cdv A outer s H vs Q E hr h => ?_)
  · obtain ⟨v, d, n, rfl, _⟩ := h
    rfl
  · obtain ⟨v, d, n, rfl, hd, k⟩ := h
    refine ⟨_, (pss_one (ps_ret (pe_and (pe_callB (id := "isinstance") (call_isD "tuple" (by decide)) (by rfl) T.m_isinstance (by decide +kernel) (pa_cons (pv 0) (pa_cons (pe_bltn (v := .ty "tuple") (by rfl) T.m_tuple (by decide +kernel) rfl) pa_nil))) (pe_one (pe_cmpR op_eq (pe_callB (id := "len") call_len_seq (by rfl) T.m_len (by decide +kernel) (pa_cons (pv 0) pa_nil)) (pv 1) (nomark _)))))), ?_⟩
    refine ⟨_, rfl, v, d, rfl, hd, _, rfl, ?_⟩
    cases ht : isA "tuple" d with
    | false =>
      rw [isA_tupD n ht] at k
      exact iteF k
    | true =>
      obtain ⟨ds, rfl⟩ := isA_tup ht
      cases hd with
      | tup h1 h2 =>
        rename_i a xs
        have hl := dpAll_len h2
        refine iteT ⟨_, rfl, a, xs, rfl, .inr h1, _, rfl, rfl, ?_⟩
        have e : decide (V.int (xs.length : Int) = V.int n) = tupD n (.tuple ds) := by
          simp only [tupD, hl, V.int.injEq]
        rw [e]
        exact k
end

/-! ### what every law's own def needs -/
theorem room_law (e : Env) : Room 50 (callerA.deeper e) := (show Room 51 callerA from ⟨rfl, by decide, by decide⟩).deeper e
theorem show_bool (b : Bool) : PyData.showable (.bool b) = true ∧ PyData.depth (.bool b) ≤ 50 ∧ (PyData.shown (.bool b)).length ≤ sizeLine := by
  refine ⟨by simp only [PyData.showable], by simp only [PyData.depth]; decide, ?_⟩
  cases b <;> simp only [PyData.shown] <;> exact Nat.le_trans (by decide : _ ≤ 5) (by decide)
theorem pow_pos_int {s : Int} (h : 0 < s) : ∀ n : Nat, 0 < s ^ n
  | 0 => by rw [Int.pow_zero]; decide
  | n + 1 => by rw [Int.pow_succ]; exact Int.mul_pos (pow_pos_int h n) h
theorem nice_int {e : Nat} {i : Int} (he : 10 ≤ e) (h : i.natAbs ≤ 1000) : nice e (.int i) = true := by
  have p : 2 ^ 10 ≤ 2 ^ e := Nat.pow_le_pow_right (by decide) he
  simp only [nice, decide_eq_true_eq]
  omega
theorem nice_three {e : Nat} {x y z : Int} (he : 10 ≤ e) (hx : x.natAbs ≤ 1000) (hy : y.natAbs ≤ 1000) (hz : z.natAbs ≤ 1000) : nice e (.tuple [.int x, .int y, .int z]) = true := by
  simp only [nice, niceAll, Bool.and_eq_true]
  exact ⟨by simpa only [nice] using nice_int he hx, by simpa only [nice] using nice_int he hy, by simpa only [nice] using nice_int he hz, trivial⟩
theorem tiny_three {x y z : Int} (hx : x.natAbs ≤ 1000) (hy : y.natAbs ≤ 1000) (hz : z.natAbs ≤ 1000) : Tiny 140 4 1 (.tuple [.int x, .int y, .int z]) :=
  ⟨nice_three (by decide) hx hy hz, by simp [wt, wtAll], by simp [PyData.depth, PyData.depthAll]⟩
theorem tiny_int {x : Int} (hx : x.natAbs ≤ 1000) : Tiny 140 1 0 (.int x) := ⟨nice_int (by decide) hx, by simp [wt], by simp [PyData.depth]⟩
theorem ne_self (x : V) : (!decide (x = x)) = false := by
  rw [decide_eq_true rfl]
  rfl

/-! ### more of small data, and of what is kept -/
theorem Deck.sqt {K : PySem.W.Frag} {H J : Hp} {p a : Addr} {n : Nat} {xs : List V} (D : Deck K H p n) (k : Keep p H J) (h : SqT K H a xs) : SqT K J a xs := by
  obtain ⟨_, _, _, _, hp, _⟩ := D
  exact sameT off_in (sameT k.s (tup_off hp h))
theorem Acc.tupI {K : PySem.W.Frag} {p t : Addr} {n : Nat} {vs : List V} {ds : List PyData} {H0 J : Hp} {xs : List V} {ms : List Int} (A : Acc K p n H0 J vs ds) (c : SqT K J t xs) (e : xs = ms.map V.int) : Acc K p n H0 J (vs ++ [.ref t]) (ds ++ [.tuple (ms.map PyData.int)]) := by
  subst e
  exact A.add (dt_of A.dk c (ints_dp ms))
theorem tiny_ints {ms : List Int} {L : Nat} (h : ∀ x ∈ ms, x.natAbs ≤ 1000) (hl : ms.length < L) : Tiny 143 L 20 (.tuple (ms.map PyData.int)) ∧ Tiny 143 L 20 (.list (ms.map PyData.int)) := by
  have w : wtAll (ms.map PyData.int) = ms.length := by
    clear h hl
    induction ms with
    | nil => rfl
    | cons x r ih => simp only [List.map_cons, wtAll, wt, ih, List.length_cons]; omega
  have q := tiny_tup (e := 143) (W := L) (m := 0) (ds := ms.map PyData.int) (fun d hd => by
    obtain ⟨x, hx, rfl⟩ := List.mem_map.mp hd
    exact ⟨nice_int (by decide) (h x hx), by simp [PyData.depth]⟩) (by rw [w]; exact hl)
  exact ⟨q.1.mono (Nat.le_refl _) (Nat.le_refl _) (by decide), q.2.mono (Nat.le_refl _) (Nat.le_refl _) (by decide)⟩
theorem tiny_pair {z r g : Int} {d : PyData} (hz : z.natAbs ≤ 1000) (hr : r.natAbs ≤ 1000) (hg : g.natAbs ≤ 1000) (t : Tiny 143 4000 20 d) : Tiny 143 4100 21 (.list [.tuple [.int z, .int r, .int g], d]) := by
  have t3 := tiny_three hz hr hg
  have a := t3.we
  have b := t.we
  have c := t3.de
  have e := t.de
  refine ⟨?_, by simp only [wt, wtAll] at *; omega, by simp only [PyData.depth, PyData.depthAll] at *; omega⟩
  simp only [nice, niceAll, Bool.and_true, Bool.and_eq_true]
  exact ⟨by simpa only [nice, niceAll, Bool.and_true, Bool.and_eq_true] using nice_three (e := 143) (by decide) hz hr hg, t.ni⟩
theorem len_tiny {d : PyData} (t : Tiny 143 4000 20 d) : ∀ ds, d = .tuple ds → ds.length ≤ 4000 := fun ds e => by
  have a := t.we
  rw [e] at a
  simp only [wt] at a
  have := wtAll_len ds
  omega
theorem tiny_bools (bs : List Bool) (hl : bs.length < 4000) : Tiny 143 4000 20 (.tuple (bs.map PyData.bool)) := by
  have w : wtAll (bs.map PyData.bool) = bs.length := by
    clear hl
    induction bs with
    | nil => rfl
    | cons x r ih => simp only [List.map_cons, wtAll, wt, ih, List.length_cons]; omega
  have q := tiny_tup (e := 143) (W := 4000) (m := 0) (ds := bs.map PyData.bool) (fun d hd => by
    obtain ⟨x, hx, rfl⟩ := List.mem_map.mp hd
    exact ⟨by simp [nice], by simp [PyData.depth]⟩) (by rw [w]; exact hl)
  exact q.1.mono (Nat.le_refl _) (Nat.le_refl _) (by decide)
theorem Deck.of_grow {K : PySem.W.Frag} {H J : Hp} {p : Addr} {n : Nat} (D : Deck K H p n) (e : Grow H J) : Deck K J p n := by
  obtain ⟨l, ns, c, r, hp, lp, hl, z⟩ := D
  exact ⟨l, ns, c, r, e.at hp, lp, e.seq hl, z⟩
theorem sqT_upd {K : PySem.W.Frag} {J : Hp} {q L : Addr} {xs ys : List V} {o : HO} (h : SqT K J q xs) (hl : J L = some (.lst ys)) : SqT K (upd J L o) q xs := by
  rcases h with (h | ⟨u, h⟩) | h
  · exact Or.inl (Or.inl (by rw [upd_ne (ne_of h hl (by intro z; cases z))]; exact h))
  · exact Or.inl (Or.inr ⟨u, by rw [upd_ne (ne_of h hl (by intro z; cases z))]; exact h⟩)
  · exact Or.inr h
theorem bools_dp {K : PySem.W.Frag} {H : Hp} : ∀ bs : List Bool, DpAll K H (bs.map V.bl) (bs.map PyData.bool)
  | [] => .nil
  | b :: bs => .cons (.bl b) (bools_dp bs)
def isOne (x : Int) : Bool := decide (V.int x = V.int 1)
theorem cut_last {xs : List V} {v : V} (h : xs.getLast? = some v) : cutV xs (some (-1)) none = [v] := by
  have h0 : 0 < xs.length := by
    cases xs with
    | nil => cases h
    | cons _ _ => simp
  have e : HT.sIx xs.length 0 (some (-1)) = xs.length - 1 := by
    show (if (-1 : Int) < 0 then ((-1 : Int) + (xs.length : Int)).toNat else min (-1 : Int).toNat xs.length) = xs.length - 1
    rw [if_pos (by decide)]
    omega
  unfold cutV
  rw [e, HT.sIx_none, show xs.length - (xs.length - 1) = 1 by omega]
  rw [List.getLast?_eq_getElem?] at h
  obtain ⟨hl, hv⟩ := List.getElem?_eq_some_iff.mp h
  rw [← List.getElem_cons_drop hl, hv]
  rfl

/-! ### items of shaped data -/
theorem shaped_items {ds : List PyData} (h : SeqAt.shaped (.tuple ds) = true) : ∀ d ∈ ds, SeqAt.shaped d = true := by
  intro d hd
  unfold SeqAt.shaped at h ⊢
  simp only [Bool.and_eq_true, decide_eq_true_eq] at h ⊢
  obtain ⟨h1, h2⟩ := h
  have h1' : PyData.canLayAll0 ds = true := by simpa only [PyData.canLay0] using h1
  have h2' : PyData.depthAll ds + 1 ≤ 64 := by simpa only [PyData.depth] using h2
  have lay : ∀ (ds : List PyData), PyData.canLayAll0 ds = true → ∀ d ∈ ds, d.canLay0 = true := by
    intro ds
    induction ds with
    | nil => intro _ d hd; exact (List.not_mem_nil hd).elim
    | cons x xs ih =>
      intro h d hd
      have h' : x.canLay0 = true ∧ PyData.canLayAll0 xs = true := by simpa only [PyData.canLayAll0, Bool.and_eq_true] using h
      rcases List.mem_cons.mp hd with rfl | hd
      · exact h'.1
      · exact ih h'.2 d hd
  have := depthAll_le.mp (Nat.le_refl (PyData.depthAll ds)) d hd
  exact ⟨lay ds h1' d hd, by omega⟩
theorem write_same {q : Addr} {G J : Hp} {o : HO} (k : Same G J) (h : G q = none) : Same G (upd J q o) := fun b u e => by
  rw [upd_ne (ne_of_none e h)]
  exact k b u e

/-! ### what is a way -/
def behindB (number rows : Int) (d : PyData) : Bool := wholeD (number + 1) (rows - 1) d || wholeD (-1) (-1) d
def wayrowB (z number rows : Int) : PyData → Bool
  | .tuple [.int a, .tuple ns] => (decide (-1 ≤ a) && decide (a ≤ z - 1)) && (decide ((ns.length : Int) = if a = -1 then 1 else z) && ((decide (a = -1) || PyData.eqv (ns.getD a.toNat .none) (.int (-1))) && ns.all (behindB number rows)))
  | _ => false
def wayB (z : Int) : PyData → Bool
  | .tuple ds => (decide (1 ≤ ds.length) && decide (ds.length ≤ 200)) && (List.range ds.length).all fun i => wayrowB z (i : Int) (ds.length : Int) (ds.getD i .none)
  | _ => false
theorem wayrow_short {z number rows : Int} {d : PyData} (h : tupD 2 d = false) : wayrowB z number rows d = false := by
  cases d with
  | tuple ds =>
    match ds with
    | [] => rfl
    | [x] => cases x <;> rfl
    | [_, _] => exact absurd h (by simp [tupD])
    | x :: y :: _ :: _ =>
      cases x with
      | int i => cases y <;> rfl
      | _ => rfl
  | _ => rfl
theorem tupD_two {d : PyData} (h : tupD 2 d = true) : ∃ a b, d = .tuple [a, b] := by
  cases d with
  | tuple ds =>
    match ds with
    | [] => exact absurd h (by simp [tupD])
    | [_] => exact absurd h (by simp [tupD])
    | [a, b] => exact ⟨a, b, rfl⟩
    | _ :: _ :: _ :: r => exact absurd h (by simp [tupD]; omega)
  | _ => exact absurd h (by simp [tupD])
theorem wayrow_deed {z number rows : Int} {a b : PyData} (h : wholeD (-1) (z - 1) a = false) : wayrowB z number rows (.tuple [a, b]) = false := by
  cases a with
  | int i =>
    cases b with
    | tuple ns =>
      have h' : (decide (-1 ≤ i) && decide (i ≤ z - 1)) = false := h
      simp only [wayrowB, h', Bool.false_and]
    | _ => rfl
  | _ => rfl
theorem wayrow_nexts {z number rows i : Int} {b : PyData} (h : tupD (if i = -1 then 1 else z) b = false) : wayrowB z number rows (.tuple [.int i, b]) = false := by
  cases b with
  | tuple ns =>
    have h' : decide ((ns.length : Int) = if i = -1 then 1 else z) = false := h
    simp only [wayrowB, h', Bool.false_and, Bool.and_false]
  | _ => rfl
def sp_rowbehind (K : PySem.W.Frag) : Sp := fun vs H Q _ => ∃ (v : V) (d : PyData) (number rows : Int), vs = [v, .int number, .int rows] ∧ Dp K H v d ∧ Q (.bl (behindB number rows d)) H
def sp_wayrow (K : PySem.W.Frag) : Sp := fun vs H Q _ => ∃ (th : Addr) (v : V) (z r g number rows : Int) (d : PyData), vs = [.ref th, v, .int number, .int rows] ∧ SqT K H th [.int z, .int r, .int g] ∧ 2 ≤ z ∧ z ≤ 4 ∧ Dp K H v d ∧ SeqAt.shaped d = true ∧ ∀ J, Same H J → Q (.bl (wayrowB z number rows d)) J
def sp_isway (K : PySem.W.Frag) : Sp := fun vs H Q _ => ∃ (th : Addr) (v : V) (z r g : Int) (d : PyData), vs = [.ref th, v] ∧ SqT K H th [.int z, .int r, .int g] ∧ 2 ≤ z ∧ z ≤ 4 ∧ Dp K H v d ∧ SeqAt.shaped d = true ∧ ∀ J, Same H J → Q (.bl (wayB z d)) J
section
variable {P : Program} {w : World} {K : PySem.W.Frag} {mg : Str → Option Value} {base : Heap}
theorem ok_rowbehind (T : Txt K mg) : FnOk P w K mg base CX0 2 T.a_is_row_behind T.d_is_row_behind ["value", "number", "rows"] (sp_rowbehind K) := by
  have G_whole : FnOk P w K mg base CX0 1 T.a_whole T.d_whole ["value", "low", "high"] (sp_whole K) := ok_whole T
  refine T.F_is_row_behind.ok sc_is_row_behind (fun vs H Q E h => ?_) (fun cdv A outer s H vs Q E hr h => ?_)
  · obtain ⟨v, d, number, rows, rfl, _⟩ := h
    rfl
  · obtain ⟨v, d, number, rows, rfl, hd, k⟩ := h
    refine ⟨_, (pss_one (ps_ret (pe_or (pe_call G_whole (hr.mono (by omega)) (by rfl) T.g_whole T.F_whole.kp T.b_whole .nil pass0 (pa_cons (pv 0) (pa_cons (pe_op op_add (pv 1) pe_int) (pa_cons (pe_op op_sub (pv 2) pe_int) pa_nil)))) (pe_one (pe_call G_whole (hr.mono (by omega)) (by rfl) T.g_whole T.F_whole.kp T.b_whole .nil pass0 (pa_cons (pv 0) (pa_cons (pe_un un_neg pe_int) (pa_cons (pe_un un_neg pe_int) pa_nil)))))))), ?_⟩
    refine ⟨_, rfl, _, rfl, _, _, rfl, rfl, _, rfl, _, _, rfl, rfl, v, d, number + 1, rows - 1, rfl, hd, _, rfl, ?_⟩
    cases h1 : wholeD (number + 1) (rows - 1) d with
    | true =>
      have e : behindB number rows d = true := by simp only [behindB, h1, Bool.true_or]
      rw [e] at k
      exact iteT k
    | false =>
      have e : behindB number rows d = wholeD (-1) (-1) d := by simp only [behindB, h1, Bool.false_or]
      rw [e] at k
      exact iteF ⟨_, rfl, 1, rfl, 1, rfl, v, d, -1, -1, rfl, hd, k⟩
theorem ok_wayrow (T : Txt K mg) : FnOk P w K mg base CX0 3 T.a_is_way_row T.d_is_way_row ["house", "value", "number", "rows"] (sp_wayrow K) := by
  have G_whole : FnOk P w K mg base CX0 1 T.a_whole T.d_whole ["value", "low", "high"] (sp_whole K) := ok_whole T
  have G_tuple_of : FnOk P w K mg base CX0 1 T.a_tuple_of T.d_tuple_of ["value", "many"] (sp_tupleof K) := ok_tupleof T
  have G_is_row_behind : FnOk P w K mg base CX0 2 T.a_is_row_behind T.d_is_row_behind ["value", "number", "rows"] (sp_rowbehind K) := ok_rowbehind T
  refine T.F_is_way_row.ok sc_is_way_row (fun vs H Q E h => ?_) (fun cdv A outer s H vs Q E hr h => ?_)
  · obtain ⟨th, v, z, r, g, number, rows, d, rfl, _⟩ := h
    rfl
  · obtain ⟨th, v, z, r, g, number, rows, d, rfl, hth, z2, z4, hd, hsh, k⟩ := h
    refine ⟨_, (pss_cons (ps_if (pt_not (pt_val (pe_call G_tuple_of (hr.mono (by omega)) (by rfl) T.g_tuple_of T.F_tuple_of.kp T.b_tuple_of .nil pass0 (pa_cons (pv 1) (pa_cons pe_int pa_nil)))))
        (pss_one (ps_ret pe_bl))
        pss_nil)
      (pss_cons (ps_asg (pv 1) (pg_tup (by rfl) (pgs_cons (pg_name (i := 4) sc_is_way_row.nd rfl (Or.inl rfl)) (pgs_cons (pg_name (i := 5) sc_is_way_row.nd rfl (Or.inl rfl)) pgs_nil))))
      (pss_cons (ps_set (i := 6) sc_is_way_row.nd rfl (Or.inl rfl) (pe_ix ix_tup (pv 0) pe_int (fun _ _ => rfl)))
      (pss_cons (ps_if (pt_cut (PW.pt (pw_or (pt_not (pt_val (pe_call G_whole (hr.mono (by omega)) (by rfl) T.g_whole T.F_whole.kp T.b_whole .nil pass0 (pa_cons (pv 4) (pa_cons (pe_glob (v := .int (-1)) rfl T.g_WAIT ⟨_, rfl⟩) (pa_cons (pe_op op_sub (pv 6) pe_int) pa_nil)))))) (pw_or1 (pt_not (pt_val (pe_call G_tuple_of (hr.mono (by omega)) (by rfl) T.g_tuple_of T.F_tuple_of.kp T.b_tuple_of .nil pass0 (pa_cons (pv 5) (pa_cons (pe_ifExp (pt_cmpR op_eq (pv 4) (pe_glob (v := .int (-1)) rfl T.g_WAIT ⟨_, rfl⟩) (nomark _)) pe_int (pv 6)) pa_nil)))))))))
        (pss_one (ps_ret pe_bl))
        pss_nil)
      (pss_cons (ps_if (pt_cut (PW.pt (pw_and (pt_cmpR op_ne (pv 4) (pe_glob (v := .int (-1)) rfl T.g_WAIT ⟨_, rfl⟩) (nomark _)) (pw_and1 (pt_cmpR (op_neD hr.units) (pe_ix ix_tup (pv 5) (pv 4) (fun _ _ => rfl)) (pe_un un_neg pe_int) (nomark _))))))
        (pss_one (ps_ret pe_bl))
        pss_nil)
      (pss_one (ps_ret (pe_callB (id := "all") (cr_all rfl) (by rfl) T.m_all (by decide +kernel) (pa_cons (pe_lc (own := [("one", 7)]) (g := gName 7) (by rfl) sc_is_way_row.nd (pi_tup (pv 5)) (blkOk_by (own := [("one", 7)]) (N := ["house", "value", "number", "rows", "deed", "nexts", "servers", "one"]) (sc := defScope s_is_way_row) (by decide +kernel)) (fun _ _ _ _ _ => (pg_name (i := 7) sc_is_way_row.nd rfl (Or.inl rfl))) (fun _ _ _ _ _ => pts_nil) (fun _ _ _ _ _ => (pe_call G_is_row_behind (hr.mono (by omega)) (by rfl) T.g_is_row_behind T.F_is_row_behind.kp T.b_is_row_behind .nil pass0 (pa_cons (pv 7) (pa_cons (pv 2) (pa_cons (pv 3) pa_nil)))))) pa_nil))))))))), ?_⟩
    refine ⟨_, rfl, v, d, 2, rfl, hd, _, rfl, ?_⟩
    cases h2 : tupD 2 d with
    | false =>
      rw [wayrow_short h2] at k
      exact iteT (k H (Same.refl H))
    | true =>
    obtain ⟨a, b, rfl⟩ := tupD_two h2
    have shb := shaped_items hsh b (by simp)
    cases hd with
    | tup g1 g2 =>
    cases g2 with
    | cons ha g2 =>
    cases g2 with
    | cons hb g2 =>
    cases g2
    rename_i va vb
    refine iteF ⟨_, rfl, _, _, rfl, g1, rfl, _, _, rfl, _, _, rfl, rfl, ?_⟩
    refine ⟨_, rfl, th, _, 0, _, rfl, rfl, hth, rfl, ?_⟩
    have vd : ∀ x y : Int, decide (V.int x = V.int y) = decide (x = y) := fun x y => by simp only [V.int.injEq]
    refine ⟨fun c J => J = H ∧ (c = true → wayrowB z number rows (.tuple [a, b]) = false) ∧ (c = false → ∃ (i : Int) (ns : List PyData), a = .int i ∧ -1 ≤ i ∧ i ≤ z - 1 ∧ b = .tuple ns ∧ (ns.length : Int) = if i = -1 then 1 else z), ?_, ?_⟩
    · refine ⟨_, rfl, _, rfl, _, _, rfl, rfl, va, a, -1, z - 1, rfl, ha, _, rfl, ?_⟩
      cases ea : wholeD (-1) (z - 1) a with
      | false => exact iteT ⟨rfl, fun _ => wayrow_deed ea, fun e => nomatch e⟩
      | true =>
      obtain ⟨i, rfl, i0, i1⟩ := whole_int ea
      cases ha
      have fin : ∀ c, tupD (if i = -1 then 1 else z) b = c → H = H ∧ ((!c) = true → wayrowB z number rows (.tuple [.int i, b]) = false) ∧ ((!c) = false → ∃ (i' : Int) (ns : List PyData), PyData.int i = .int i' ∧ -1 ≤ i' ∧ i' ≤ z - 1 ∧ b = .tuple ns ∧ (ns.length : Int) = if i' = -1 then 1 else z) := fun c hc => by
        refine ⟨rfl, fun e => ?_, fun e => ?_⟩
        · cases c with
          | true => cases e
          | false => exact wayrow_nexts hc
        · cases c with
          | false => cases e
          | true =>
            cases b with
            | tuple ns => exact ⟨i, ns, rfl, i0, i1, rfl, of_decide_eq_true hc⟩
            | _ => cases hc
      refine iteF ⟨_, rfl, _, rfl, rfl, _, rfl, ?_⟩
      by_cases hi : i = -1
      · rw [if_pos hi] at fin
        show (if decide (V.int i = V.int (-1)) = true then _ else _)
        rw [vd, decide_eq_true hi]
        refine iteT ⟨vb, b, 1, rfl, hb, _, rfl, ?_⟩
        exact fin _ rfl
      · rw [if_neg hi] at fin
        show (if decide (V.int i = V.int (-1)) = true then _ else _)
        rw [vd, decide_eq_false hi]
        refine iteF ⟨_, rfl, vb, b, z, rfl, hb, _, rfl, ?_⟩
        exact fin _ rfl
    · rintro c J ⟨rfl, c1, c2⟩
      cases c with
      | true =>
        rw [c1 rfl] at k
        exact iteT (k _ (Same.refl _))
      | false =>
      obtain ⟨i, ns, rfl, i0, i1, rfl, ln⟩ := c2 rfl
      cases ha
      cases hb with
      | tup n1 n2 =>
      rename_i t xs
      have lx := dpAll_len n2
      have eW : wayrowB z number rows (.tuple [.int i, .tuple ns]) = ((decide (i = -1) || PyData.eqv (ns.getD i.toNat .none) (.int (-1))) && ns.all (behindB number rows)) := by
        simp only [wayrowB, decide_eq_true i0, decide_eq_true i1, decide_eq_true ln, Bool.true_and]
      rw [eW] at k
      refine iteF ⟨fun c J' => J' = J ∧ c = !(decide (i = -1) || PyData.eqv (ns.getD i.toNat .none) (.int (-1))), ?_, ?_⟩
      · refine ⟨_, rfl, rfl, _, rfl, ?_⟩
        show (if (!decide (V.int i = V.int (-1))) = true then _ else _)
        rw [vd]
        by_cases hi : i = -1
        · rw [decide_eq_true hi]
          exact iteF ⟨rfl, by rw [Bool.true_or]; rfl⟩
        · rw [decide_eq_false hi, Bool.false_or]
          obtain ⟨m, rfl⟩ : ∃ m : Nat, i = (m : Int) := ⟨i.toNat, by omega⟩
          rw [if_neg hi] at ln
          obtain ⟨x, hx⟩ : ∃ x, xs[m]? = some x := ⟨_, List.getElem?_eq_getElem (by omega)⟩
          obtain ⟨e, he, xd⟩ := dpAll_get n2 hx
          have eg : ns.getD ((m : Int)).toNat .none = e := by rw [Int.toNat_natCast, List.getD_eq_getElem?_getD, he]; rfl
          rw [eg]
          exact iteT ⟨_, rfl, _, rfl, t, xs, (m : Int), x, rfl, rfl, n1, atI_nat hx, 1, rfl, e, .int (-1), xd, .int _, shaped_items shb e (List.mem_of_getElem? he), by decide, _, rfl, rfl, rfl⟩
      · rintro c J' ⟨rfl, hc⟩
        cases hw : (decide (i = -1) || PyData.eqv (ns.getD i.toNat .none) (.int (-1))) with
        | false =>
          rw [hw] at hc k
          rw [hc]
          rw [Bool.false_and] at k
          exact iteT (k _ (Same.refl _))
        | true =>
          rw [hw] at hc k
          rw [hc]
          rw [Bool.true_and] at k
          refine iteF ⟨_, rfl, t, rfl, ⟨_, n1⟩, fun D hD => ?_⟩
          refine lc_tup (K := K) (a := t) (xs := xs) (fun i J => J = upd J' D (.lst (((ns.take i).map (behindB number rows)).map V.bl))) rfl (fun i J _ e => by rw [e]; exact sameT (same_new hD) n1) ?_ ?_
          · rintro j x J hx rfl
            obtain ⟨e, he, xd⟩ := dpAll_get n2 hx
            have hS := same_new (o := .lst (((ns.take j).map (behindB number rows)).map V.bl)) hD
            refine ⟨rfl, ?_⟩
            unfold tYes
            refine iteT ⟨_, rfl, _, rfl, _, rfl, x, e, number, rows, rfl, dpSame hS _ _ xd, ?_⟩
            refine ⟨_, upd_same, small1000 (by simp only [List.length_map, List.length_take]; split at ln <;> omega), ?_⟩
            rw [upd_upd, List.take_add_one, he]
            simp only [List.map_append, Option.toList_some, List.map_cons, List.map_nil]
          · rintro J rfl
            have s1 := same_new (o := .lst (((ns.take xs.length).map (behindB number rows)).map V.bl)) hD
            refine ⟨D, (ns.take xs.length).map (behindB number rows), rfl, SqL.of upd_same, ?_⟩
            rw [lx, List.take_of_length_le (Nat.le_refl _)] at *
            have eb : (ns.map (behindB number rows)).all id = ns.all (behindB number rows) := by rw [List.all_map]; rfl
            rw [eb]
            exact k _ s1
theorem ok_isway (T : Txt K mg) : FnOk P w K mg base CX0 4 T.a_is_way T.d_is_way ["house", "value"] (sp_isway K) := by
  have G_is_way_row : FnOk P w K mg base CX0 3 T.a_is_way_row T.d_is_way_row ["house", "value", "number", "rows"] (sp_wayrow K) := ok_wayrow T
  refine T.F_is_way.ok sc_is_way (fun vs H Q E h => ?_) (fun cdv A outer s H vs Q E hr h => ?_)
  · obtain ⟨th, v, z, r, g, d, rfl, _⟩ := h
    rfl
  · obtain ⟨th, v, z, r, g, d, rfl, hth, z2, z4, hd, hsh, k⟩ := h
    refine ⟨_, (pss_cons (ps_if (PW.pt (pw_or (pt_not (pt_val (pe_callB (id := "isinstance") (call_isD "tuple" (by decide)) (by rfl) T.m_isinstance (by decide +kernel) (pa_cons (pv 1) (pa_cons (pe_bltn (v := .ty "tuple") (by rfl) T.m_tuple (by decide +kernel) rfl) pa_nil))))) (pw_or1 (pt_not (pt_chain op_le op_le pe_int (pe_callB (id := "len") call_len_seq (by rfl) T.m_len (by decide +kernel) (pa_cons (pv 1) pa_nil)) (pe_glob (v := .int (200)) rfl T.g_MOST_WAY_ROWS ⟨_, rfl⟩))))))
        (pss_one (ps_ret pe_bl))
        pss_nil)
      (pss_one (ps_ret (pe_callB (id := "all") (cr_all rfl) (by rfl) T.m_all (by decide +kernel) (pa_cons (pe_lc (own := [("number", 2), ("row", 3)]) (g := gTup K 2 (gCons (gName 2) (gCons (gName 3) gNil))) (by rfl) sc_is_way.nd (pi_enumT (by rfl) T.m_enumerate (pa_cons (pv 1) pa_nil)) (blkOk_by (own := [("number", 2), ("row", 3)]) (N := ["house", "value", "number", "row"]) (sc := defScope s_is_way) (by decide +kernel)) (fun _ _ _ _ _ => (pg_pairK K (i := 2) (j := 3) rfl rfl sc_is_way.nd rfl (Or.inl rfl) rfl (Or.inl rfl))) (fun _ _ _ _ _ => pts_nil) (fun _ _ _ _ _ => (pe_call G_is_way_row (hr.mono (by omega)) (by rfl) T.g_is_way_row T.F_is_way_row.kp T.b_is_way_row .nil pass0 (pa_cons (pv 0) (pa_cons (pv 3) (pa_cons (pv 2) (pa_cons (pe_callB (id := "len") (lenK K rfl) (by rfl) T.m_len (by decide +kernel) (pa_cons (pv 1) pa_nil)) pa_nil))))))) pa_nil))))), ?_⟩
    refine ⟨_, rfl, v, d, rfl, hd, _, rfl, ?_⟩
    cases ht : isA "tuple" d with
    | false =>
      have e : wayB z d = false := by cases d <;> first | rfl | (exfalso; revert ht; simp [isA, isS, kindD])
      rw [e] at k
      exact iteT (iteT (k H (Same.refl H)))
    | true =>
    obtain ⟨ds, rfl⟩ := isA_tup ht
    cases hd with
    | tup h1 h2 =>
    rename_i t xs
    have hl := dpAll_len h2
    refine iteF ⟨_, rfl, t, xs, rfl, .inr h1, 1, (xs.length : Int), rfl, rfl, _, rfl, ?_⟩
    by_cases l1 : (1 : Int) ≤ (xs.length : Int)
    · rw [decide_eq_true l1]
      refine iteT ⟨(xs.length : Int), 200, rfl, rfl, _, rfl, ?_⟩
      by_cases l6 : (xs.length : Int) ≤ 200
      · rw [decide_eq_true l6]
        have g1 : 1 ≤ ds.length := by omega
        have g2 : ds.length ≤ 200 := by omega
        have e : wayB z (.tuple ds) = (List.range ds.length).all fun i => wayrowB z (i : Int) (ds.length : Int) (ds.getD i .none) := by simp only [wayB, decide_eq_true g1, decide_eq_true g2, Bool.true_and]
        rw [e] at k
        refine iteF ⟨_, rfl, t, _, rfl, h1, fun D hD => ?_⟩
        refine lc_it (walk_enumT (K := K) (a := t) (xs := xs) (c := 0)) (fun i J => Same H J ∧ J D = some (.lst (((List.range i).map fun i : Nat => wayrowB z (i : Int) (ds.length : Int) (ds.getD i .none)).map V.bl))) ⟨same_new hD, upd_same⟩ (fun i J _ ⟨S, _⟩ => sameT S h1) ?_ ?_
        · rintro i x J J' hi ⟨S, hJ⟩ ⟨Tp, x1, x2, rfl, hTn, rfl, e1, hxi⟩
          cases e1
          obtain ⟨d, hd, xd⟩ := dpAll_get h2 hxi
          have s2 : Same J (upd J Tp (.tup [.int (0 + (i : Int)), x2])) := same_new hTn
          have R1 := S.trans s2
          have hTp : upd J Tp (.tup [.int (0 + (i : Int)), x2]) Tp = some (.tup [.int (0 + (i : Int)), x2]) := upd_same
          have hJ2 := s2 _ _ hJ
          generalize upd J Tp (.tup [.int (0 + (i : Int)), x2]) = J4 at *
          have lt' : i < ds.length := (List.getElem?_eq_some_iff.mp hd).1
          have eg : ds.getD i .none = d := by rw [List.getD_eq_getElem?_getD, hd]; rfl
          refine ⟨Tp, _, rfl, SqT.of hTp, rfl, _, _, rfl, _, _, rfl, rfl, rfl, ?_⟩
          unfold tYes
          refine iteT ⟨_, rfl, _, rfl, _, rfl, _, rfl, t, xs, rfl, .inr (sameT R1 h1), th, x2, z, r, g, 0 + (i : Int), (xs.length : Int), d, rfl, sameT R1 hth, z2, z4, dpSame R1 _ _ xd, shaped_items hsh d (List.mem_of_getElem? hd), fun J5 S5 => ?_⟩
          refine ⟨_, S5 _ _ hJ2, small1000 (by simp only [List.length_map, List.length_range]; omega), write_same (R1.trans S5) hD, ?_⟩
          rw [upd_same, List.range_succ, List.map_append, List.map_append, hl]
          simp only [List.map_cons, List.map_nil, eg, Int.zero_add]
        · rintro J ⟨S, hJ⟩
          refine ⟨D, (List.range xs.length).map fun i : Nat => wayrowB z (i : Int) (ds.length : Int) (ds.getD i .none), rfl, SqL.of hJ, ?_⟩
          rw [hl, List.all_map]
          exact k J S
      · rw [decide_eq_false l6]
        have e : wayB z (.tuple ds) = false := by
          have g : ¬ ds.length ≤ 200 := by omega
          simp only [wayB, decide_eq_false g, Bool.and_false, Bool.false_and]
        rw [e] at k
        exact iteT (k H (Same.refl H))
    · rw [decide_eq_false l1]
      have e : wayB z (.tuple ds) = false := by
        have g : ¬ 1 ≤ ds.length := by omega
        simp only [wayB, decide_eq_false g, Bool.false_and]
      rw [e] at k
      exact iteF ⟨_, rfl, iteT (k H (Same.refl H))⟩
end

section
variable {P : Program} {w : World} {K : PySem.W.Frag} {mg : Str → Option Value} {base : Heap}
theorem ok_lint (T : Txt K mg) : FnOk P w K mg base CX0 1 T.a_is_int T.d_is_int ["_law_value", "_law_low", "_law_high"] (sp_whole K) := by
  refine T.F_is_int.ok sc_is_int (fun vs H Q E h => ?_) (fun cdv A outer s H vs Q E hr h => ?_)
  · obtain ⟨v, d, lo, hi, rfl, _⟩ := h
    rfl
  · obtain ⟨v, d, lo, hi, rfl, hd, k⟩ := h
    refine ⟨_, (pss_one (ps_ret (pe_and (pe_callB (id := "isinstance") (call_isD "int" (by decide)) (by rfl) T.m_isinstance (by decide +kernel) (pa_cons (pv 0) (pa_cons (pe_bltn (v := .ty "int") (by rfl) T.m_int (by decide +kernel) rfl) pa_nil))) (pe_and (pe_not (pe_callB (id := "isinstance") (call_isD "bool" (by decide)) (by rfl) T.m_isinstance (by decide +kernel) (pa_cons (pv 0) (pa_cons (pe_bltn (v := .ty "bool") (by rfl) T.m_bool (by decide +kernel) rfl) pa_nil)))) (pe_one (pe_chain op_le op_le (pv 1) (pv 0) (pv 2))))))), ?_⟩
    refine ⟨_, rfl, v, d, rfl, hd, _, rfl, ?_⟩
    cases hi' : isA "int" d with
    | false =>
      rw [isA_whole (by rw [hi']; simp)] at k
      exact iteF k
    | true =>
    refine iteT ⟨_, rfl, v, d, rfl, hd, _, rfl, _, rfl, ?_⟩
    cases hb : isA "bool" d with
    | true =>
      rw [isA_whole (by rw [hb]; simp)] at k
      exact iteF k
    | false =>
    obtain ⟨i, rfl⟩ := isA_int_of (by rw [hb]; simp) (by rw [hi']; simp)
    cases hd
    refine iteT ⟨_, rfl, _, rfl, lo, i, rfl, rfl, _, rfl, ?_⟩
    by_cases hl : lo ≤ i
    · rw [decide_eq_true hl]
      refine iteT ⟨_, rfl, i, hi, rfl, rfl, ?_⟩
      have e : wholeD lo hi (.int i) = decide (i ≤ hi) := by simp only [wholeD, decide_eq_true hl, Bool.true_and]
      rw [e] at k
      exact k
    · rw [decide_eq_false hl]
      refine iteF ?_
      have e : wholeD lo hi (.int i) = false := by simp only [wholeD, decide_eq_false hl, Bool.false_and]
      rw [e] at k
      exact k
end

/-! ### the law's own word on what a way is -/
def sp_lrow (K : PySem.W.Frag) : Sp := fun vs H Q E => ∃ (th : Addr) (v : V) (z r g place many : Int) (d : PyData), vs = [.ref th, v, .int place, .int many] ∧ 0 ≤ place ∧ 0 ≤ many ∧ SqT K H th [.int z, .int r, .int g] ∧ 2 ≤ z ∧ z ≤ 4 ∧ Dp K H v d ∧ SeqAt.shaped d = true ∧ ∀ J, Same H J → Q (.bl (wayrowB z place many d)) J
def rowSoFar (z place many a : Int) (ns : List PyData) (i : Nat) : Prop := ∀ j e, j < i → ns[j]? = some e → behindB place many e = true ∧ ((j : Int) = a → e = .int (-1))
theorem behind_int {place many l : Int} (p0 : 0 ≤ place) (m0 : 0 ≤ many) (h : -1 ≤ l ∧ l ≤ many - 1) : behindB place many (.int l) = !(decide (0 ≤ l) && decide (l ≤ place)) := by
  rw [Bool.eq_iff_iff]
  simp only [behindB, wholeD, Bool.or_eq_true, Bool.and_eq_true, decide_eq_true_eq, Bool.not_eq_true', Bool.and_eq_false_iff, decide_eq_false_iff_not]
  omega
theorem behind_not {place many : Int} {d : PyData} (p0 : 0 ≤ place) (m0 : 0 ≤ many) (h : wholeD (-1) (many - 1) d = false) : behindB place many d = false := by
  cases d with
  | int l =>
    rw [Bool.eq_false_iff]
    intro hb
    simp only [wholeD, Bool.and_eq_false_iff, decide_eq_false_iff_not] at h
    simp only [behindB, wholeD, Bool.or_eq_true, Bool.and_eq_true, decide_eq_true_eq] at hb
    omega
  | _ => rfl
section
variable {P : Program} {w : World} {K : PySem.W.Frag} {mg : Str → Option Value} {base : Heap}
theorem ok_lrow (T : Txt K mg) : FnOk P w K mg base CX0 2 T.a_is_row T.d_is_row ["_law_house", "_law_value", "_law_place", "_law_many"] (sp_lrow K) := by
  have G_is_int : FnOk P w K mg base CX0 1 T.a_is_int T.d_is_int ["_law_value", "_law_low", "_law_high"] (sp_whole K) := ok_lint T
  refine T.F_is_row.ok sc_is_row (fun vs H Q E h => ?_) (fun cdv A outer s H vs Q E hr h => ?_)
  · obtain ⟨th, v, z, r, g, place, many, d, rfl, _⟩ := h
    rfl
  · obtain ⟨th, v, z, r, g, place, many, d, rfl, p0, m0, hth, z2, z4, hd, hsh, k⟩ := h
    refine ⟨_, (pss_cons (ps_if (pt_cut (PW.pt (pw_or (pt_not (pt_val (pe_callB (id := "isinstance") (call_isD "tuple" (by decide)) (by rfl) T.m_isinstance (by decide +kernel) (pa_cons (pv 1) (pa_cons (pe_bltn (v := .ty "tuple") (by rfl) T.m_tuple (by decide +kernel) rfl) pa_nil))))) (pw_or (pt_cmpR op_ne (pe_callB (id := "len") call_len_seq (by rfl) T.m_len (by decide +kernel) (pa_cons (pv 1) pa_nil)) pe_int (nomark _)) (pw_or1 (pt_not (pt_val (pe_call G_is_int (hr.mono (by omega)) (by rfl) T.g_is_int T.F_is_int.kp T.b_is_int .nil pass0 (pa_cons (pe_ix ix_tup (pv 1) pe_int (fun _ _ => rfl)) (pa_cons (pe_un un_neg pe_int) (pa_cons (pe_op op_sub (pe_ix ix_tup (pv 0) pe_int (fun _ _ => rfl)) pe_int) pa_nil)))))))))))
        (pss_one (ps_ret pe_bl))
        pss_nil)
      (pss_cons (ps_asg (pv 1) (pg_tup (by rfl) (pgs_cons (pg_name (i := 4) sc_is_row.nd rfl (Or.inl rfl)) (pgs_cons (pg_name (i := 5) sc_is_row.nd rfl (Or.inl rfl)) pgs_nil))))
      (pss_cons (ps_if (pt_cut (PW.pt (pw_or (pt_not (pt_val (pe_callB (id := "isinstance") (call_isD "tuple" (by decide)) (by rfl) T.m_isinstance (by decide +kernel) (pa_cons (pv 5) (pa_cons (pe_bltn (v := .ty "tuple") (by rfl) T.m_tuple (by decide +kernel) rfl) pa_nil))))) (pw_or1 (pt_cmpR op_ne (pe_callB (id := "len") call_len_seq (by rfl) T.m_len (by decide +kernel) (pa_cons (pv 5) pa_nil)) (pe_ifExp (pt_cmpR op_eq (pv 4) (pe_un un_neg pe_int) (nomark _)) pe_int (pe_ix ix_tup (pv 0) pe_int (fun _ _ => rfl))) (nomark _))))))
        (pss_one (ps_ret pe_bl))
        pss_nil)
      (pss_cons (ps_for PassesOwn.never rfl (pi_enumT (by rfl) T.m_enumerate (pa_cons (pv 5) pa_nil)) (pg_tup (by rfl) (pgs_cons (pg_name (i := 6) sc_is_row.nd rfl (Or.inl rfl)) (pgs_cons (pg_name (i := 7) sc_is_row.nd rfl (Or.inl rfl)) pgs_nil)))
        (Evl.pss_cut (ps_if (PW.pt (pw_or (pt_not (pt_val (pe_call G_is_int (hr.mono (by omega)) (by rfl) T.g_is_int T.F_is_int.kp T.b_is_int .nil pass0 (pa_cons (pv 7) (pa_cons (pe_un un_neg pe_int) (pa_cons (pe_op op_sub (pv 3) pe_int) pa_nil)))))) (pw_or1 (pt_chain op_le op_le pe_int (pv 7) (pv 2)))))
        (pss_one (ps_ret pe_bl))
        pss_nil)
      (pss_one (ps_if (PW.pt (pw_and (pt_cmpR op_eq (pv 6) (pv 4) (nomark _)) (pw_and1 (pt_cmpR op_ne (pv 7) (pe_un un_neg pe_int) (nomark _)))))
        (pss_one (ps_ret pe_bl))
        pss_nil))))
      (pss_one (ps_ret pe_bl)))))), ?_⟩
    have vd : ∀ x y : Int, decide (V.int x = V.int y) = decide (x = y) := fun x y => by simp only [V.int.injEq]
    refine ⟨fun c J => J = H ∧ (c = true → wayrowB z place many d = false) ∧ (c = false → ∃ (i : Int) (b : PyData), d = .tuple [.int i, b] ∧ -1 ≤ i ∧ i ≤ z - 1), ?_, ?_⟩
    · refine ⟨_, rfl, v, d, rfl, hd, _, rfl, ?_⟩
      cases ht : isA "tuple" d with
      | false => exact iteT ⟨rfl, fun _ => by cases d <;> first | rfl | (exfalso; revert ht; simp [isA, isS, kindD]), fun e => nomatch e⟩
      | true =>
      obtain ⟨ds, rfl⟩ := isA_tup ht
      cases hd with
      | tup h1 h2 =>
      rename_i t xs
      have hl := dpAll_len h2
      refine iteF ⟨_, rfl, t, xs, rfl, .inr h1, rfl, _, rfl, ?_⟩
      have e2 : (decide (V.int (xs.length : Int) = V.int 2)) = tupD 2 (.tuple ds) := by rw [vd, hl]; rfl
      rw [e2]
      cases h2' : tupD 2 (.tuple ds) with
      | false => exact iteT ⟨rfl, fun _ => wayrow_short h2', fun e => nomatch e⟩
      | true =>
      obtain ⟨a, b, e⟩ := tupD_two h2'
      cases e
      cases h2 with
      | cons ha h2 =>
      cases h2 with
      | cons hb h2 =>
      cases h2
      refine iteF ⟨_, rfl, t, _, 0, _, rfl, rfl, h1, rfl, 1, rfl, _, rfl, th, _, 0, _, rfl, rfl, hth, rfl, _, _, rfl, rfl, _, a, -1, z - 1, rfl, ha, _, rfl, ?_⟩
      cases ea : wholeD (-1) (z - 1) a with
      | false => exact ⟨rfl, fun _ => wayrow_deed ea, fun e => absurd e (by decide)⟩
      | true =>
        obtain ⟨i, rfl, i0, i1⟩ := whole_int ea
        exact ⟨rfl, fun e => absurd e (by decide), fun _ => ⟨i, b, rfl, i0, i1⟩⟩
    · rintro c J ⟨rfl, c1, c2⟩
      cases c with
      | true =>
        rw [c1 rfl] at k
        exact iteT (k _ (Same.refl _))
      | false =>
      obtain ⟨i, b, rfl, i0, i1⟩ := c2 rfl
      have shb := shaped_items hsh b (by simp)
      cases hd with
      | tup g1 g2 =>
      cases g2 with
      | cons ha g2 =>
      cases g2 with
      | cons hb g2 =>
      cases g2
      cases ha
      rename_i av vb
      refine iteF ⟨_, rfl, _, _, rfl, g1, rfl, _, _, rfl, _, _, rfl, rfl, ?_⟩
      refine ⟨fun c J' => J' = J ∧ (c = true → wayrowB z place many (.tuple [.int i, b]) = false) ∧ (c = false → ∃ ns : List PyData, b = .tuple ns ∧ (ns.length : Int) = if i = -1 then 1 else z), ?_, ?_⟩
      · refine ⟨_, rfl, vb, b, rfl, hb, _, rfl, ?_⟩
        cases ht : isA "tuple" b with
        | false => exact iteT ⟨rfl, fun _ => by cases b <;> first | rfl | (exfalso; revert ht; simp [isA, isS, kindD]), fun e => nomatch e⟩
        | true =>
        obtain ⟨ns, rfl⟩ := isA_tup ht
        cases hb with
        | tup n1 n2 =>
        rename_i t xs
        have lx := dpAll_len n2
        have fin : ∀ c, decide ((xs.length : Int) = if i = -1 then 1 else z) = c → J = J ∧ ((!c) = true → wayrowB z place many (.tuple [.int i, .tuple ns]) = false) ∧ ((!c) = false → ∃ ns' : List PyData, PyData.tuple ns = .tuple ns' ∧ (ns'.length : Int) = if i = -1 then 1 else z) := fun c hc => by
          rw [lx] at hc
          refine ⟨rfl, fun e => ?_, fun e => ?_⟩
          · cases c with
            | true => cases e
            | false => exact wayrow_nexts hc
          · cases c with
            | false => cases e
            | true => exact ⟨ns, rfl, of_decide_eq_true hc⟩
        refine iteF ⟨_, rfl, t, xs, rfl, .inr n1, _, rfl, 1, rfl, rfl, _, rfl, ?_⟩
        by_cases hi : i = -1
        · show (if decide (V.int i = V.int (-1)) = true then _ else _)
          rw [vd, decide_eq_true hi]
          refine iteT ⟨rfl, _, rfl, ?_⟩
          rw [vd]
          exact fin _ (by rw [if_pos hi])
        · show (if decide (V.int i = V.int (-1)) = true then _ else _)
          rw [vd, decide_eq_false hi]
          refine iteF ⟨_, rfl, th, _, 0, _, rfl, rfl, hth, rfl, rfl, _, rfl, ?_⟩
          rw [vd]
          exact fin _ (by rw [if_neg hi])
      · rintro c J' ⟨rfl, c1, c2⟩
        cases c with
        | true =>
          rw [c1 rfl] at k
          exact iteT (k _ (Same.refl _))
        | false =>
        obtain ⟨ns, rfl, ln⟩ := c2 rfl
        cases hb with
        | tup n1 n2 =>
        rename_i t xs
        have lx := dpAll_len n2
        have eW : wayrowB z place many (.tuple [.int i, .tuple ns]) = ((decide (i = -1) || PyData.eqv (ns.getD i.toNat .none) (.int (-1))) && ns.all (behindB place many)) := by
          simp only [wayrowB, decide_eq_true i0, decide_eq_true i1, decide_eq_true ln, Bool.true_and]
        rw [eW] at k
        refine iteF ⟨_, rfl, t, _, rfl, n1, for_it (walk_enumT (K := K) (a := t) (xs := xs) (c := 0)) (fun j σ M => (∃ y6 y7, σ = [some (.ref th), some (.ref av), some (.int place), some (.int many), some (.int i), some (.ref t), y6, y7]) ∧ Same J' M ∧ rowSoFar z place many i ns j) ⟨⟨_, _, rfl⟩, Same.refl _, fun j e h => absurd h (Nat.not_lt_zero _)⟩ (fun j σ M _ ⟨_, S, _⟩ => sameT S n1) ?_ ?_⟩
        · rintro j x σ M M' hj ⟨⟨y6, y7, rfl⟩, S, far⟩ ⟨Tp, x1, x2, rfl, hTn, rfl, e1, hxi⟩
          cases e1
          obtain ⟨d, hd, xd⟩ := dpAll_get n2 hxi
          have R1 : Same J' (upd M Tp (.tup [.int (0 + (j : Int)), x2])) := S.trans (same_new hTn)
          have hTp : upd M Tp (.tup [.int (0 + (j : Int)), x2]) Tp = some (.tup [.int (0 + (j : Int)), x2]) := upd_same
          generalize upd M Tp (.tup [.int (0 + (j : Int)), x2]) = M4 at *
          refine ⟨Tp, _, rfl, SqT.of hTp, rfl, _, _, rfl, _, _, rfl, rfl, ?_⟩
          have lt' : j < ns.length := (List.getElem?_eq_some_iff.mp hd).1
          have dm := List.mem_of_getElem? hd
          have bad1 : behindB place many d = false → Q (.bl false) M4 := fun q => by
            have e0 : ns.all (behindB place many) = false := List.all_eq_false.mpr ⟨d, dm, by rw [q]; simp⟩
            rw [e0, Bool.and_false] at k
            exact k _ R1
          have xd' := dpSame R1 _ _ xd
          refine ⟨fun σ' M' => ∃ l : Int, d = .int l ∧ -1 ≤ l ∧ l ≤ many - 1 ∧ ¬ (0 ≤ l ∧ l ≤ place) ∧ σ' = [some (.ref th), some (.ref av), some (.int place), some (.int many), some (.int i), some (.ref t), some (.int (0 + (j : Int))), some (.int l)] ∧ M' = M4, ?_, ?_⟩
          · refine ⟨_, rfl, 1, rfl, _, rfl, _, _, rfl, rfl, x2, d, -1, many - 1, rfl, xd', _, rfl, ?_⟩
            cases hw : wholeD (-1) (many - 1) d with
            | false => exact iteT (iteT (bad1 (behind_not p0 m0 hw)))
            | true =>
            obtain ⟨l, rfl, l0, l1⟩ := whole_int hw
            cases xd'
            have eb := behind_int (place := place) p0 m0 ⟨l0, l1⟩
            refine iteF ⟨_, rfl, 0, l, rfl, rfl, _, rfl, ?_⟩
            by_cases b0 : 0 ≤ l
            · rw [decide_eq_true b0]
              refine iteT ⟨_, rfl, l, place, rfl, rfl, _, rfl, ?_⟩
              by_cases b1 : l ≤ place
              · rw [decide_eq_true b1]
                exact iteT (bad1 (by rw [eb, decide_eq_true b0, decide_eq_true b1]; rfl))
              · rw [decide_eq_false b1]
                exact iteF ⟨l, rfl, l0, l1, fun h => b1 h.2, rfl, rfl⟩
            · rw [decide_eq_false b0]
              exact iteF ⟨_, rfl, iteF ⟨l, rfl, l0, l1, fun h => b0 h.1, rfl, rfl⟩⟩
          · rintro σ' M' ⟨l, rfl, l0, l1, hn, rfl, rfl⟩
            have eb : behindB place many (.int l) = true := by
              rw [behind_int (place := place) p0 m0 ⟨l0, l1⟩]
              by_cases b0 : 0 ≤ l
              · rw [decide_eq_true b0, decide_eq_false fun h => hn ⟨b0, h⟩]
                rfl
              · rw [decide_eq_false b0]
                rfl
            have far' : ((j : Int) = i → l = -1) → rowSoFar z place many i ns (j + 1) := fun h q e hq he => by
              rcases Nat.lt_or_ge q j with c | c
              · exact far q e c he
              · obtain rfl : q = j := by omega
                rw [hd] at he
                cases he
                exact ⟨eb, fun e => by rw [h e]⟩
            refine ⟨_, rfl, _, rfl, rfl, _, rfl, ?_⟩
            rw [vd]
            by_cases hji : 0 + (j : Int) = i
            · rw [decide_eq_true hji]
              refine iteT ⟨_, rfl, 1, rfl, rfl, _, rfl, ?_⟩
              show (if (!decide (V.int l = V.int (-1))) = true then _ else _)
              rw [vd]
              by_cases hl1 : l = -1
              · rw [decide_eq_true hl1]
                exact iteF ⟨⟨_, _, rfl⟩, R1, far' fun _ => hl1⟩
              · rw [decide_eq_false hl1]
                refine iteT ?_
                have e1 : decide (i = -1) = false := decide_eq_false (by omega)
                have e2 : ns.getD i.toNat .none = .int l := by
                  rw [show i.toNat = j by omega, List.getD_eq_getElem?_getD, hd]
                  rfl
                have e3 : PyData.eqv (.int l) (.int (-1)) = false := by
                  simp only [PyData.eqv]
                  first
                    | exact beq_eq_false_iff_ne.mpr hl1
                    | exact decide_eq_false hl1
                rw [e1, e2, e3, Bool.false_or, Bool.false_and] at k
                exact k _ R1
            · rw [decide_eq_false hji]
              exact iteF ⟨⟨_, _, rfl⟩, R1, far' fun e => absurd (by omega) hji⟩
        · rintro σ M ⟨⟨y6, y7, rfl⟩, S, far⟩
          have e1 : ns.all (behindB place many) = true := List.all_eq_true.mpr fun e he => by
            obtain ⟨q, hq⟩ := List.mem_iff_getElem?.mp he
            exact (far q e (by rw [lx]; exact (List.getElem?_eq_some_iff.mp hq).1) hq).1
          have e2 : (decide (i = -1) || PyData.eqv (ns.getD i.toNat .none) (.int (-1))) = true := by
            by_cases hi : i = -1
            · rw [decide_eq_true hi]
              rfl
            · rw [if_neg hi] at ln
              obtain ⟨e, he⟩ : ∃ e, ns[i.toNat]? = some e := ⟨_, List.getElem?_eq_getElem (by omega)⟩
              have q := (far i.toNat e (by omega) he).2 (by omega)
              rw [decide_eq_false hi, List.getD_eq_getElem?_getD, he, q]
              simp [PyData.eqv]
          rw [e1, e2] at k
          exact k M S
theorem ok_lway (T : Txt K mg) : FnOk P w K mg base CX0 3 T.a_l_is_way T.d_l_is_way ["_law_house", "_law_value"] (sp_isway K) := by
  have G_is_row : FnOk P w K mg base CX0 2 T.a_is_row T.d_is_row ["_law_house", "_law_value", "_law_place", "_law_many"] (sp_lrow K) := ok_lrow T
  refine T.F_l_is_way.ok sc_l_is_way (fun vs H Q E h => ?_) (fun cdv A outer s H vs Q E hr h => ?_)
  · obtain ⟨th, v, z, r, g, d, rfl, _⟩ := h
    rfl
  · obtain ⟨th, v, z, r, g, d, rfl, hth, z2, z4, hd, hsh, k⟩ := h
    refine ⟨_, (pss_cons (ps_if (PW.pt (pw_or (pt_not (pt_val (pe_callB (id := "isinstance") (call_isD "tuple" (by decide)) (by rfl) T.m_isinstance (by decide +kernel) (pa_cons (pv 1) (pa_cons (pe_bltn (v := .ty "tuple") (by rfl) T.m_tuple (by decide +kernel) rfl) pa_nil))))) (pw_or1 (pt_not (pt_chain op_le op_le pe_int (pe_callB (id := "len") call_len_seq (by rfl) T.m_len (by decide +kernel) (pa_cons (pv 1) pa_nil)) pe_int)))))
        (pss_one (ps_ret pe_bl))
        pss_nil)
      (pss_cons (ps_set (i := 2) sc_l_is_way.nd rfl (Or.inr rfl) (pe_callB (id := "len") call_len_seq (by rfl) T.m_len (by decide +kernel) (pa_cons (pv 1) pa_nil)))
      (pss_one (ps_ret (pe_cmpR (op_eqD hr.units) (pe_lc (own := [("_law_place", 3), ("_law_row", 4)]) (g := gTup K 2 (gCons (gName 3) (gCons (gName 4) gNil))) (by rfl) sc_l_is_way.nd (pi_enumT (by rfl) T.m_enumerate (pa_cons (pv 1) pa_nil)) (blkOk_by (own := [("_law_place", 3), ("_law_row", 4)]) (N := ["_law_house", "_law_value", "_law_many", "_law_place", "_law_row"]) (sc := defScope s_l_is_way) (by decide +kernel)) (fun _ _ _ _ _ => (pg_pairK K (i := 3) (j := 4) rfl rfl sc_l_is_way.nd rfl (Or.inl rfl) rfl (Or.inl rfl))) (fun _ _ _ _ _ => (pts_one (pt_not (pt_val (pe_call G_is_row (hr.mono (by omega)) (by rfl) T.g_is_row T.F_is_row.kp T.b_is_row .nil pass0 (pa_cons (pv 0) (pa_cons (pv 4) (pa_cons (pv 3) (pa_cons (pv 2) pa_nil))))))))) (fun _ _ _ _ _ => pe_int)) (pe_lst pa_nil) (nomark _)))))), ?_⟩
    refine ⟨_, rfl, v, d, rfl, hd, _, rfl, ?_⟩
    cases ht : isA "tuple" d with
    | false =>
      have e : wayB z d = false := by cases d <;> first | rfl | (exfalso; revert ht; simp [isA, isS, kindD])
      rw [e] at k
      exact iteT (iteT (k H (Same.refl H)))
    | true =>
    obtain ⟨ds, rfl⟩ := isA_tup ht
    cases hd with
    | tup h1 h2 =>
    rename_i t xs
    have hl := dpAll_len h2
    refine iteF ⟨_, rfl, t, xs, rfl, .inr h1, 1, (xs.length : Int), rfl, rfl, _, rfl, ?_⟩
    by_cases l1 : (1 : Int) ≤ (xs.length : Int)
    · rw [decide_eq_true l1]
      refine iteT ⟨(xs.length : Int), 200, rfl, rfl, _, rfl, ?_⟩
      by_cases l6 : (xs.length : Int) ≤ 200
      · rw [decide_eq_true l6]
        have g1 : 1 ≤ ds.length := by omega
        have g2 : ds.length ≤ 200 := by omega
        have e : wayB z (.tuple ds) = (List.range ds.length).all fun i => wayrowB z (i : Int) (ds.length : Int) (ds.getD i .none) := by simp only [wayB, decide_eq_true g1, decide_eq_true g2, Bool.true_and]
        rw [e] at k
        refine iteF ⟨_, rfl, t, xs, rfl, .inr h1, ?_⟩
        refine ⟨_, rfl, t, _, rfl, h1, fun D hD => ?_⟩
        refine lc_it (walk_enumT (K := K) (a := t) (xs := xs) (c := 0)) (fun i J => Same H J ∧ ∃ n : Nat, J D = some (.lst ((List.replicate n (1 : Int)).map V.int)) ∧ n ≤ i ∧ (n = 0 ↔ ((List.range i).all fun i => wayrowB z (i : Int) (ds.length : Int) (ds.getD i .none)) = true)) ⟨same_new hD, 0, upd_same, Nat.le_refl _, by simp⟩ (fun i J _ ⟨S, _⟩ => sameT S h1) ?_ ?_
        · rintro i x J J' hi ⟨S, n, hJ, hn, iff⟩ ⟨Tp, x1, x2, rfl, hTn, rfl, e1, hxi⟩
          cases e1
          obtain ⟨d, hd, xd⟩ := dpAll_get h2 hxi
          have s2 : Same J (upd J Tp (.tup [.int (0 + (i : Int)), x2])) := same_new hTn
          have R1 := S.trans s2
          have hTp : upd J Tp (.tup [.int (0 + (i : Int)), x2]) Tp = some (.tup [.int (0 + (i : Int)), x2]) := upd_same
          have hJ2 := s2 _ _ hJ
          generalize upd J Tp (.tup [.int (0 + (i : Int)), x2]) = J4 at *
          have lt' : i < ds.length := (List.getElem?_eq_some_iff.mp hd).1
          have eg : ds.getD i .none = d := by rw [List.getD_eq_getElem?_getD, hd]; rfl
          refine ⟨Tp, _, rfl, SqT.of hTp, rfl, _, _, rfl, _, _, rfl, rfl, rfl, ?_⟩
          refine ⟨_, rfl, _, rfl, _, rfl, _, rfl, th, x2, z, r, g, 0 + (i : Int), (xs.length : Int), d, rfl, by omega, by omega, sameT R1 hth, z2, z4, dpSame R1 _ _ xd, shaped_items hsh d (List.mem_of_getElem? hd), fun J5 S5 => ⟨_, rfl, ?_⟩⟩
          have R2 := R1.trans S5
          have hJ5 := S5 _ _ hJ2
          rw [Int.zero_add, hl]
          have ra : ((List.range (i + 1)).all fun i => wayrowB z (i : Int) (ds.length : Int) (ds.getD i .none)) = (((List.range i).all fun i => wayrowB z (i : Int) (ds.length : Int) (ds.getD i .none)) && wayrowB z (i : Int) (ds.length : Int) d) := by
            rw [List.range_succ, List.all_append]
            simp only [List.all_cons, List.all_nil, Bool.and_true, eg]
          cases hw : wayrowB z (i : Int) (ds.length : Int) d with
          | true =>
            refine iteF ⟨R2, n, hJ5, by omega, ?_⟩
            rw [ra, hw, Bool.and_true]
            exact iff
          | false =>
            refine iteT ⟨_, hJ5, small1000 (by rw [List.length_map, List.length_replicate]; omega), write_same R2 hD, n + 1, ?_, by omega, ?_⟩
            · rw [upd_same, List.replicate_succ', List.map_append]
              rfl
            · rw [ra, hw, Bool.and_false]
              simp
        · rintro J ⟨S, n, hJ, hn, iff⟩
          refine ⟨Nat.zero_le _, fun q hq => ?_⟩
          have sq : Same J (upd J q (.lst [])) := same_new hq
          refine ⟨.list ((List.replicate n (1 : Int)).map PyData.int), .list [], .lst (SqL.of (sq _ _ hJ)) (ints_dp _), .lst (SqL.of upd_same) .nil, ints_shaped _, by decide, ?_⟩
          rw [ints_nil]
          have e3 : (List.replicate n (1 : Int)).isEmpty = (List.range ds.length).all fun i => wayrowB z (i : Int) (ds.length : Int) (ds.getD i .none) := by
            rw [Bool.eq_iff_iff, ← hl, hl, ← iff_of_eq (congrArg (fun m => ((List.range m).all fun i => wayrowB z (i : Int) (ds.length : Int) (ds.getD i .none)) = true) hl)]
            rw [← iff]
            simp
          rw [e3]
          exact k _ (S.trans sq)
      · rw [decide_eq_false l6]
        have e : wayB z (.tuple ds) = false := by
          have g : ¬ ds.length ≤ 200 := by omega
          simp only [wayB, decide_eq_false g, Bool.and_false, Bool.false_and]
        rw [e] at k
        exact iteT (k H (Same.refl H))
    · rw [decide_eq_false l1]
      have e : wayB z (.tuple ds) = false := by
        have g : ¬ 1 ≤ ds.length := by omega
        simp only [wayB, decide_eq_false g, Bool.false_and]
      rw [e] at k
      exact iteF ⟨_, rfl, iteT (k H (Same.refl H))⟩
end

/-! ### a small house -/
def sp_smallh (K : PySem.W.Frag) : Sp := fun vs H Q _ => ∃ (p : Addr) (n : Nat), vs = [.ref p] ∧ Deck K H p n ∧ n < 900000 ∧
  ∀ (z r g : Int) (t : Addr) (J : Hp), 2 ≤ z → z ≤ 4 → 1 ≤ r → r ≤ 6 → 0 ≤ g → g ≤ 2 → J t = some (.tup [.int z, .int r, .int g]) → Deck K J p (n + 3) → Keep p H J → Q (.ref t) J
section
variable {P : Program} {w : World} {K : PySem.W.Frag} {mg : Str → Option Value} {base : Heap}
theorem ok_smallh (T : Txt K mg) : FnOk P w K mg base CX0 3 T.a_small_house T.d_small_house ["_law_deck_here"] (sp_smallh K) := by
  have G_draw : FnOk P w K mg base CX0 1 T.a_draw T.d_draw ["_law_deck_here", "_law_many"] (sp_draw K) := ok_draw T
  have G_one : FnOk P w K mg base CX0 2 T.a_one T.d_one ["_law_deck_here", "_law_items"] (sp_one K) := ok_one T
  refine T.F_small_house.ok sc_small_house (fun vs H Q E h => ?_) (fun cdv A outer s H vs Q E hr h => ?_)
  · obtain ⟨p, n, rfl, _⟩ := h
    rfl
  · obtain ⟨p, n, rfl, D, hn, k⟩ := h
    refine ⟨_, (pss_cons (ps_asg (pe_call G_one (hr.mono (by omega)) (by rfl) T.g_one T.F_one.kp T.b_one .nil pass0 (pa_cons (pv 0) (pa_cons (pe_lst (pa_cons (pe_tup (pa_cons pe_int (pa_cons pe_int pa_nil))) (pa_cons (pe_tup (pa_cons pe_int (pa_cons pe_int pa_nil))) (pa_cons (pe_tup (pa_cons pe_int (pa_cons pe_int pa_nil))) (pa_cons (pe_tup (pa_cons pe_int (pa_cons pe_int pa_nil))) (pa_cons (pe_tup (pa_cons pe_int (pa_cons pe_int pa_nil))) (pa_cons (pe_tup (pa_cons pe_int (pa_cons pe_int pa_nil))) (pa_cons (pe_tup (pa_cons pe_int (pa_cons pe_int pa_nil))) (pa_cons (pe_tup (pa_cons pe_int (pa_cons pe_int pa_nil))) pa_nil))))))))) pa_nil))) (pg_tup (by rfl) (pgs_cons (pg_name (i := 1) sc_small_house.nd rfl (Or.inl rfl)) (pgs_cons (pg_name (i := 2) sc_small_house.nd rfl (Or.inl rfl)) pgs_nil))))
      (pss_one (ps_ret (pe_tup (pa_cons (pv 1) (pa_cons (pe_call G_one (hr.mono (by omega)) (by rfl) T.g_one T.F_one.kp T.b_one .nil pass0 (pa_cons (pv 0) (pa_cons (pe_lst (pa_cons pe_int (pa_cons pe_int (pa_cons pe_int (pa_cons pe_int (pa_cons (pe_op op_add pe_int (pe_call G_draw (hr.mono (by omega)) (by rfl) T.g_draw T.F_draw.kp T.b_draw .nil pass0 (pa_cons (pv 0) (pa_cons pe_int pa_nil)))) pa_nil)))))) pa_nil))) (pa_cons (pv 2) pa_nil))))))), ?_⟩
    have two : (2 : Nat) ≤ sizeLine := by decide
    -- each of the eight
    let At : Hp → V → Prop := fun J x => ∃ (b : Addr) (z g : Int), x = .ref b ∧ b ≠ p ∧ J b = some (.tup [.int z, .int g]) ∧ 2 ≤ z ∧ z ≤ 4 ∧ 0 ≤ g ∧ g ≤ 2
    have keepAt : ∀ {J M : Hp} {x : V}, Keep p J M → At J x → At M x := fun k ⟨b, z, g, e, bp, hb, c⟩ => ⟨b, z, g, e, bp, k.at bp hb, c⟩
    let All : Hp → List V → Prop := fun J xs => Deck K J p n ∧ Keep p H J ∧ ∀ x ∈ xs, At J x
    have put : ∀ {J : Hp} {xs : List V} {z g : Int} {b : Addr}, All J xs → J b = none → 2 ≤ z → z ≤ 4 → 0 ≤ g → g ≤ 2 → All (upd J b (.tup [.int z, .int g])) (xs ++ [.ref b]) := fun {J xs z g b} A hb z2 z4 g0 g2 =>
      ⟨A.1.put hb, A.2.1.trans (Keep.new hb), fun x hx => (List.mem_append.mp hx).elim (fun h => keepAt (Keep.new hb) (A.2.2 x h)) fun h => by
        rw [List.mem_singleton.mp h]
        exact ⟨b, z, g, rfl, A.1.ne_new hb, upd_same, z2, z4, g0, g2⟩⟩
    have B0 : All H [] := ⟨D, Keep.refl p H, fun x hx => (List.not_mem_nil hx).elim⟩
    refine ⟨_, rfl, two, fun w1 g1 => ?_⟩
    have B1 := put (z := 2) (g := 0) B0 g1 (by decide) (by decide) (by decide) (by decide)
    refine ⟨two, fun w2 g2 => ?_⟩
    have B2 := put (z := 2) (g := 1) B1 g2 (by decide) (by decide) (by decide) (by decide)
    refine ⟨two, fun w3 g3 => ?_⟩
    have B3 := put (z := 2) (g := 2) B2 g3 (by decide) (by decide) (by decide) (by decide)
    refine ⟨two, fun w4 g4 => ?_⟩
    have B4 := put (z := 2) (g := 2) B3 g4 (by decide) (by decide) (by decide) (by decide)
    refine ⟨two, fun w5 g5 => ?_⟩
    have B5 := put (z := 3) (g := 0) B4 g5 (by decide) (by decide) (by decide) (by decide)
    refine ⟨two, fun w6 g6 => ?_⟩
    have B6 := put (z := 3) (g := 1) B5 g6 (by decide) (by decide) (by decide) (by decide)
    refine ⟨two, fun w7 g7 => ?_⟩
    have B7 := put (z := 3) (g := 1) B6 g7 (by decide) (by decide) (by decide) (by decide)
    refine ⟨two, fun w8 g8 => ?_⟩
    have B8 := put (z := 4) (g := 0) B7 g8 (by decide) (by decide) (by decide) (by decide)
    refine ⟨by show 8 ≤ sizeLine; decide, fun l gl => ?_⟩
    have s9 := B8.1.put gl (o := .lst [.ref w1, .ref w2, .ref w3, .ref w4, .ref w5, .ref w6, .ref w7, .ref w8])
    have K9 := Keep.new (p := p) gl (o := .lst [.ref w1, .ref w2, .ref w3, .ref w4, .ref w5, .ref w6, .ref w7, .ref w8])
    refine ⟨p, l, _, n, rfl, SqL.of upd_same, B8.1.ne_new gl, by show 0 < 8; decide, by show 8 < 100000; decide, s9, by omega, fun i x J hx DJ KJ => ?_⟩
    obtain ⟨b, z, g, rfl, bp, hb, z2, z4, g0, g2⟩ := keepAt (K9.trans KJ) (B8.2.2 x (List.mem_of_getElem? hx))
    have K1 := (B8.2.1.trans K9).trans KJ
    clear B0 B1 B2 B3 B4 B5 B6 B7 B8 s9 K9 KJ hx
    refine ⟨b, _, rfl, SqT.of hb, rfl, _, _, rfl, _, _, rfl, rfl, ?_⟩
    refine ⟨_, rfl, _, rfl, _, rfl, p, 6, n + 1, rfl, by decide, by decide, DJ, by omega, fun y J3 y0 y1 D3 K3 => ?_⟩
    refine ⟨_, _, rfl, rfl, by show 5 ≤ sizeLine; decide, fun l3 hl3 => ?_⟩
    refine ⟨p, l3, _, n + 2, rfl, SqL.of upd_same, D3.ne_new hl3, by show 0 < 5; decide, by show 5 < 100000; decide, D3.put hl3, by omega, fun j x4 J4 hx4 D4 K4 => ?_⟩
    obtain ⟨r, rfl, r1, r6⟩ : ∃ r : Int, x4 = .int r ∧ 1 ≤ r ∧ r ≤ 6 := by
      have m := List.mem_of_getElem? hx4
      simp only [List.mem_cons, List.not_mem_nil, or_false] at m
      rcases m with m | m | m | m | m
      · exact ⟨_, m, by decide, by decide⟩
      · exact ⟨_, m, by decide, by decide⟩
      · exact ⟨_, m, by decide, by decide⟩
      · exact ⟨_, m, by decide, by decide⟩
      · exact ⟨_, m, by omega, by omega⟩
    refine ⟨_, rfl, by show 3 ≤ sizeLine; decide, fun t ht => ?_⟩
    exact k z r g t _ z2 z4 r1 r6 g0 g2 upd_same (D4.put ht) ((((K1.trans K3).trans (Keep.new hl3)).trans K4).trans (Keep.new ht))
end

/-! ### a drawn way -/
def wrowD (q : Int × List Int) : PyData := .tuple [.int q.1, .tuple (q.2.map PyData.int)]
def wayT (rs : List (Int × List Int)) : PyData := .tuple (rs.map wrowD)
def WRow (q : Int × List Int) : Prop := -2 ≤ q.1 ∧ q.1 ≤ 4 ∧ q.2 ≠ [] ∧ q.2.length ≤ 4 ∧ ∀ x ∈ q.2, -2 ≤ x ∧ x ≤ 201
def InWay (rs : List (Int × List Int)) : Prop := ∀ q ∈ rs, WRow q
def WRowAt (J : Hp) (p F : Addr) (v : V) (q : Int × List Int) : Prop := ∃ b c : Addr, v = .ref b ∧ b ≠ p ∧ b ≠ F ∧ c ≠ p ∧ c ≠ F ∧ J b = some (.tup [.int q.1, .ref c]) ∧ J c = some (.tup (q.2.map V.int))
theorem wrows_dp {K : PySem.W.Frag} {H : Hp} {p F : Addr} : ∀ {vs : List V} {rs : List (Int × List Int)}, Paired (WRowAt H p F) vs rs → DpAll K (off p H) vs (rs.map wrowD)
  | _, _, .nil => .nil
  | _, _, .cons ⟨b, c, e, b1, _, c1, _, hb, hc⟩ t => by
    subst e
    exact .cons (.tup (SqT.of (off_at b1 hb)) (.cons (.int _) (.cons (.tup (SqT.of (off_at c1 hc)) (ints_dp _)) .nil))) (wrows_dp t)
theorem WRowAt.keep {J M : Hp} {p F : Addr} {v : V} {q : Int × List Int} (h : WRowAt J p F v q) (k : Keep p J M) : WRowAt M p F v q := by
  obtain ⟨b, c, e, b1, b2, c1, c2, hb, hc⟩ := h
  exact ⟨b, c, e, b1, b2, c1, c2, k.at b1 hb, k.at c1 hc⟩
theorem WRowAt.put {J : Hp} {p F : Addr} {v : V} {q : Int × List Int} {o : HO} (h : WRowAt J p F v q) : WRowAt (upd J F o) p F v q := by
  obtain ⟨b, c, e, b1, b2, c1, c2, hb, hc⟩ := h
  exact ⟨b, c, e, b1, b2, c1, c2, by rw [upd_ne b2]; exact hb, by rw [upd_ne c2]; exact hc⟩
def WayAt (K : PySem.W.Frag) (p th F : Addr) (many z r g : Int) (J1 : Hp) (i N : Nat) (σ : L2.St) (J : Hp) : Prop := ∃ (y4 y5 y6 y7 y8 : Option V) (rs : List (Int × List Int)) (fs : List V) (n' : Nat), σ = [some (.ref p), some (.ref th), some (.int many), some (.ref F), y4, y5, y6, y7, y8] ∧ rs.length = i ∧ J F = some (.lst fs) ∧
  J th = some (.tup [.int z, .int r, .int g]) ∧ Paired (WRowAt J p F) fs rs ∧ InWay rs ∧ n' ≤ N ∧ Deck K J p n' ∧ Keep p J1 J
def sp_dway (K : PySem.W.Frag) : Sp := fun vs H Q _ => ∃ (p th : Addr) (z r g many : Int) (n : Nat), vs = [.ref p, .ref th, .int many] ∧ H th = some (.tup [.int z, .int r, .int g]) ∧ 2 ≤ z ∧ z ≤ 4 ∧ 1 ≤ many ∧ many ≤ 100 ∧ Deck K H p n ∧ n < 400000 ∧
  ∀ (rs : List (Int × List Int)) (t : Addr) (fs : List V) (J : Hp) (n' : Nat), (rs.length : Int) = many → InWay rs → SqT K J t fs → DpAll K (off p J) fs (rs.map wrowD) → n' ≤ n + 9 * many.toNat → Deck K J p n' → Keep p H J → Q (.ref t) J
section
variable {P : Program} {w : World} {K : PySem.W.Frag} {mg : Str → Option Value} {base : Heap}
theorem ok_dway (T : Txt K mg) : FnOk P w K mg base CX0 3 T.a_drawn_way T.d_drawn_way ["_law_deck_here", "_law_house", "_law_many"] (sp_dway K) := by
  have G_draw : FnOk P w K mg base CX0 1 T.a_draw T.d_draw ["_law_deck_here", "_law_many"] (sp_draw K) := ok_draw T
  have G_one : FnOk P w K mg base CX0 2 T.a_one T.d_one ["_law_deck_here", "_law_items"] (sp_one K) := ok_one T
  refine T.F_drawn_way.ok sc_drawn_way (fun vs H Q E h => ?_) (fun cdv A outer s H vs Q E hr h => ?_)
  · obtain ⟨p, th, z, r, g, many, n, rfl, _⟩ := h
    rfl
  · obtain ⟨p, th, z, r, g, many, n, rfl, hth, z2, z4, m1, m100, D, hn, k⟩ := h
    refine ⟨_, (pss_cons (ps_set (i := 3) sc_drawn_way.nd rfl (Or.inl rfl) (pe_lst pa_nil))
      (pss_cons (ps_for PassesOwn.never rfl (pi_range1 (by rfl) T.m_range (pa_cons (pv 2) pa_nil)) (pg_name (i := 4) sc_drawn_way.nd rfl (Or.inl rfl))
        (pss_cons (ps_set (i := 5) sc_drawn_way.nd rfl (Or.inl rfl) (pe_call G_one (hr.mono (by omega)) (by rfl) T.g_one T.F_one.kp T.b_one .nil pass0 (pa_cons (pv 0) (pa_cons (pe_op op_cat (pe_op op_rep (pe_listRg rfl (by rfl) T.m_list (prg_1 (by rfl) T.m_range (pe_ix ix_tup (pv 1) pe_int (fun _ _ => rfl)))) pe_int) (pe_lst (pa_cons (pe_un un_neg pe_int) pa_nil))) pa_nil))))
      (pss_cons (ps_set (i := 6) sc_drawn_way.nd rfl (Or.inl rfl) (pe_lst pa_nil))
      (pss_cons (ps_for PassesOwn.never rfl (pi_range1 (by rfl) T.m_range (pa_cons (pe_ix ix_tup (pv 1) pe_int (fun _ _ => rfl)) pa_nil)) (pg_name (i := 7) sc_drawn_way.nd rfl (Or.inl rfl))
        (pss_cons (ps_set (i := 8) sc_drawn_way.nd rfl (Or.inl rfl) (pe_un un_neg pe_int))
      (Evl.pss_cut (ps_if (PW.pt (pw_and (pt_cmpR op_lt (pe_op op_add (pv 4) pe_int) (pv 2) (nomark _)) (pw_and1 (pt_cmpR op_gt (pe_call G_draw (hr.mono (by omega)) (by rfl) T.g_draw T.F_draw.kp T.b_draw .nil pass0 (pa_cons (pv 0) (pa_cons pe_int pa_nil))) pe_int (nomark _)))))
        (pss_one (ps_set (i := 8) sc_drawn_way.nd rfl (Or.inl rfl) (pe_op op_add (pe_op op_add (pv 4) pe_int) (pe_call G_draw (hr.mono (by omega)) (by rfl) T.g_draw T.F_draw.kp T.b_draw .nil pass0 (pa_cons (pv 0) (pa_cons (pe_op op_sub (pe_op op_sub (pv 2) (pv 4)) pe_int) pa_nil))))))
        pss_nil)
      (pss_one (ps_expr (pe_bm PySem.F.plainAttrs_list PySem.F.slot_list_append PySem.F.type_list_append mt_append (pv 6) (pa_cons (pv 8) pa_nil)))))))
      (pss_one (ps_if (pt_cmpR op_eq (pv 5) (pe_un un_neg pe_int) (nomark _))
        (pss_one (ps_expr (pe_bm PySem.F.plainAttrs_list PySem.F.slot_list_append PySem.F.type_list_append mt_append (pv 3) (pa_cons (pe_tup (pa_cons (pv 5) (pa_cons (pe_callTy (T := "tuple") call_tuple_of (by rfl) T.m_tuple (by decide +kernel) (pa_cons (pe_slice sl_list (pv 6) po_none (po_some pe_int)) pa_nil)) pa_nil))) pa_nil))))
        (pss_one (ps_expr (pe_bm PySem.F.plainAttrs_list PySem.F.slot_list_append PySem.F.type_list_append mt_append (pv 3) (pa_cons (pe_tup (pa_cons (pv 5) (pa_cons (pe_callTy (T := "tuple") call_tuple_of (by rfl) T.m_tuple (by decide +kernel) (pa_cons (pe_op op_cat (pe_op op_cat (pe_slice sl_list (pv 6) po_none (po_some (pv 5))) (pe_lst (pa_cons (pe_un un_neg pe_int) pa_nil))) (pe_slice sl_list (pv 6) (po_some (pe_op op_add (pv 5) pe_int)) po_none)) pa_nil)) pa_nil))) pa_nil))))))))))
      (pss_one (ps_ret (pe_callTy (T := "tuple") call_tuple_of (by rfl) T.m_tuple (by decide +kernel) (pa_cons (pv 3) pa_nil)))))), ?_⟩
    have th0 : th ≠ p := D.ne_tup hth
    refine ⟨Nat.zero_le _, fun F hF => ?_⟩
    have FP : F ≠ p := D.ne_new hF
    have K1 : Keep p H (upd H F (.lst [])) := Keep.new hF
    have D1 := D.put hF (o := .lst [])
    have hF1 : upd H F (.lst []) F = some (.lst []) := upd_same
    have th1 := K1.at th0 hth
    have thF : th ≠ F := fun e => by rw [e, hF1] at th1; cases th1
    generalize upd H F (.lst []) = J1 at *
    refine ⟨_, rfl, many, rfl, by omega, by omega, for_range (lo := 0) (n := many.toNat) (fun i σ J => WayAt K p th F many z r g H i (n + 9 * i) σ J) ⟨none, none, none, none, none, [], [], n, rfl, rfl, hF1, th1, .nil, fun q hq => (List.not_mem_nil hq).elim, by omega, D1, K1⟩ ?_ ?_⟩
    · rintro i σ J hi ⟨y4, y5, y6, y7, y8, rs, fs, n', rfl, lr, hJF, thJ, al, inW, hn', DJ, KJ⟩
      have hi' : (i : Int) < many := by omega
      refine ⟨_, rfl, _, rfl, th, _, 0, _, rfl, rfl, SqT.of thJ, rfl, z, rfl, RgOk.of_le (by decide) (by omega) (by decide) (by omega), fun q1 g1 => ?_⟩
      have lz : (rgV 0 z).length = z.toNat := by rw [rgV_length, Int.sub_zero]
      have memR : ∀ x ∈ rgV 0 z, ∃ a : Int, x = .int a ∧ -1 ≤ a ∧ a ≤ z - 1 := fun x hx => by
        unfold rgV at hx
        obtain ⟨j, hj, rfl⟩ := List.mem_map.mp hx
        have := List.mem_range.mp hj
        exact ⟨_, rfl, by omega, by omega⟩
      refine ⟨q1, 2, _, rfl, rfl, upd_same, by decide, by decide, Nat.le_trans (by rw [lz]; show z.toNat * 2 ≤ 200; omega : _ ≤ 200) (by decide), fun q2 g2 => ⟨1, rfl, by show 1 ≤ sizeLine; decide, fun q3 g3 => ?_⟩⟩
      have K3 : Keep p J (upd (upd (upd J q1 (.lst (rgV 0 z))) q2 (.lst (List.replicate (2 : Int).toNat (rgV 0 z)).flatten)) q3 (.lst [.int (-1)])) := ((Keep.new g1).trans (Keep.new g2)).trans (Keep.new g3)
      have D3 := ((DJ.put g1 (o := .lst (rgV 0 z))).put g2 (o := .lst (List.replicate (2 : Int).toNat (rgV 0 z)).flatten)).put g3 (o := .lst [.int (-1)])
      have h2 : upd (upd (upd J q1 (.lst (rgV 0 z))) q2 (.lst (List.replicate (2 : Int).toNat (rgV 0 z)).flatten)) q3 (.lst [.int (-1)]) q2 = some (.lst (List.replicate (2 : Int).toNat (rgV 0 z)).flatten) := same_new g3 _ _ upd_same
      have h3 : upd (upd (upd J q1 (.lst (rgV 0 z))) q2 (.lst (List.replicate (2 : Int).toNat (rgV 0 z)).flatten)) q3 (.lst [.int (-1)]) q3 = some (.lst [.int (-1)]) := upd_same
      show rCat (V.ref q2) (V.ref q3) (upd (upd (upd J q1 (.lst (rgV 0 z))) q2 (.lst (List.replicate (2 : Int).toNat (rgV 0 z)).flatten)) q3 (.lst [.int (-1)])) _
      generalize upd (upd (upd J q1 (.lst (rgV 0 z))) q2 (.lst (List.replicate (2 : Int).toNat (rgV 0 z)).flatten)) q3 (.lst [.int (-1)]) = J3 at *
      have lf : (List.replicate (2 : Int).toNat (rgV 0 z)).flatten.length = 2 * z.toNat := by
        rw [List.length_flatten, List.map_replicate, List.sum_replicate_nat, lz]
        rfl
      refine ⟨q2, q3, _, _, rfl, rfl, h2, h3, Nat.le_trans (by rw [lf, List.length_singleton]; omega : _ ≤ 200) (by decide), fun q4 g4 => ?_⟩
      refine ⟨p, q4, _, n', rfl, SqL.of upd_same, D3.ne_new g4, by rw [List.length_append, List.length_singleton]; omega, by rw [List.length_append, List.length_singleton, lf]; omega, D3.put g4, by omega, fun ai av J4 hav D4 K4 => ?_⟩
      obtain ⟨act, rfl, a0, a1⟩ : ∃ a : Int, av = .int a ∧ -1 ≤ a ∧ a ≤ z - 1 := by
        rcases List.mem_append.mp (List.mem_of_getElem? hav) with m | m
        · obtain ⟨l, hl, hm⟩ := List.mem_flatten.mp m
          rw [List.eq_of_mem_replicate hl] at hm
          exact memR _ hm
        · exact ⟨-1, List.mem_singleton.mp m, by decide, by omega⟩
      have K04 : Keep p J J4 := (K3.trans (Keep.new g4)).trans K4
      clear h2 h3 K3 D3 hav K4
      refine ⟨Nat.zero_le _, fun N gN => ?_⟩
      have NP : N ≠ p := D4.ne_new gN
      have K5 : Keep p J4 (upd J4 N (.lst [])) := Keep.new gN
      have hN5 : upd J4 N (.lst []) N = some (.lst []) := upd_same
      have D5 := D4.put gN (o := .lst [])
      generalize upd J4 N (.lst []) = J5 at *
      refine ⟨_, rfl, th, _, 0, _, rfl, rfl, SqT.of ((K04.trans K5).at th0 thJ), rfl, z, rfl, by omega, by omega, for_range (lo := 0) (n := z.toNat) (fun q σ M => ∃ (y7 y8 : Option V) (ys : List Int) (n2 : Nat), σ = [some (.ref p), some (.ref th), some (.int many), some (.ref F), some (.int (0 + (i : Int))), some (.int act), some (.ref N), y7, y8] ∧ ys.length = q ∧ M N = some (.lst (ys.map V.int)) ∧
          (∀ x ∈ ys, -2 ≤ x ∧ x ≤ 201) ∧ n2 ≤ n' + 1 + 2 * q ∧ Deck K M p n2 ∧ Keep p J4 M) ⟨_, _, [], n' + 1, rfl, rfl, hN5, fun x hx => (List.not_mem_nil hx).elim, by omega, D5, K5⟩ ?_ ?_⟩
      · rintro q σ M hq ⟨y7, y8, ys, n2, rfl, ly, hN, hys, hn2, DM, KM⟩
        refine ⟨1, rfl, ?_⟩
        refine ⟨fun σ' M' => ∃ (l : Int) (n3 : Nat), σ' = [some (.ref p), some (.ref th), some (.int many), some (.ref F), some (.int (0 + (i : Int))), some (.int act), some (.ref N), some (.int (0 + (q : Int))), some (.int l)] ∧ -2 ≤ l ∧ l ≤ 201 ∧ n3 ≤ n2 + 2 ∧ Deck K M' p n3 ∧ Keep p M M', ?_, ?_⟩
        · refine ⟨_, rfl, _, _, rfl, rfl, _, rfl, _, _, rfl, rfl, _, rfl, ite2 (fun hlt => ?_) (fun _ => ⟨-1, n2, rfl, by decide, by decide, by omega, DM, Keep.refl p M⟩)⟩
          have hlt' : 0 + (i : Int) + 1 < many := of_decide_eq_true hlt
          refine ⟨_, rfl, p, 6, n2, rfl, by decide, by decide, DM, by omega, fun x M2 x0 x6 D2 K2 => ⟨_, _, rfl, rfl, _, rfl, ite2 (fun _ => ?_) (fun _ => ⟨-1, n2 + 1, rfl, by decide, by decide, by omega, D2, K2⟩)⟩⟩
          refine ⟨_, rfl, _, _, rfl, rfl, _, rfl, _, rfl, _, rfl, _, _, rfl, rfl, _, _, rfl, rfl, p, many - (0 + (i : Int)) - 1, n2 + 1, rfl, by omega, by omega, D2, by omega, fun y M3 y0 y1 D3 K3 => ⟨_, _, rfl, rfl, ?_⟩⟩
          exact ⟨0 + (i : Int) + 1 + y, n2 + 2, rfl, by omega, by omega, by omega, D3, K2.trans K3⟩
        · rintro σ' M' ⟨l, n3, rfl, l0, l1, hn3, D3, K3⟩
          have hN3 := K3.at NP hN
          refine ⟨_, rfl, .inl ⟨rfl, _, SqL.of hN3⟩, _, rfl, N, _, _, rfl, rfl, hN3, small1000 (by rw [List.length_map]; omega), ?_⟩
          refine ⟨_, _, ys ++ [l], n3, rfl, by rw [List.length_append, List.length_singleton, ly], ?_, fun x hx => ?_, by omega, D4.write gN (KM.trans K3) D3, (KM.trans K3).write gN NP⟩
          · rw [upd_same, List.map_append]
            rfl
          · rcases List.mem_append.mp hx with hx | hx
            · exact hys x hx
            · rw [List.mem_singleton.mp hx]
              exact ⟨l0, l1⟩
      · rintro σ M ⟨y7, y8, ys, n2, rfl, ly, hN, hys, hn2, DM, KM⟩
        have K0M := K04.trans KM
        have FM := K0M.at FP hJF
        have push : ∀ (M2 : Hp) (c b : Addr) (ms : List Int) (σ : L2.St), σ = [some (.ref p), some (.ref th), some (.int many), some (.ref F), some (.int (0 + (i : Int))), some (.int act), some (.ref N), y7, y8] → Keep p M M2 → Deck K M2 p n2 → M2 c = none → upd M2 c (.tup (ms.map V.int)) b = none → ms ≠ [] → ms.length ≤ 4 → (∀ x ∈ ms, -2 ≤ x ∧ x ≤ 201) →
            upd (upd M2 c (.tup (ms.map V.int))) b (.tup [.int act, .ref c]) F = some (.lst fs) ∧ fs.length < sizeLine ∧ WayAt K p th F many z r g H (i + 1) (n + 9 * (i + 1)) σ (upd (upd (upd M2 c (.tup (ms.map V.int))) b (.tup [.int act, .ref c])) F (.lst (fs ++ [.ref b]))) := fun M2 c b ms σ es KM2 D2 gc gb hms l4 hm => by
          have cp : c ≠ p := D2.ne_new gc
          have Kc := Keep.new (p := p) gc (o := .tup (ms.map V.int))
          have Dc := D2.put gc (o := .tup (ms.map V.int))
          have bp : b ≠ p := Dc.ne_new gb
          have Kb := Keep.new (p := p) gb (o := .tup [.int act, .ref c])
          have Db := Dc.put gb (o := .tup [.int act, .ref c])
          have KF := ((K0M.trans KM2).trans Kc).trans Kb
          have cF : c ≠ F := fun e => by
            have z' := (K0M.trans KM2).at FP hJF
            rw [← e, gc] at z'
            cases z'
          have bF : b ≠ F := fun e => by
            have z' := ((K0M.trans KM2).trans Kc).at FP hJF
            rw [← e, gb] at z'
            cases z'
          have hc : upd (upd M2 c (.tup (ms.map V.int))) b (.tup [.int act, .ref c]) c = some (.tup (ms.map V.int)) := same_new gb _ _ upd_same
          have hb : upd (upd M2 c (.tup (ms.map V.int))) b (.tup [.int act, .ref c]) b = some (.tup [.int act, .ref c]) := upd_same
          generalize upd (upd M2 c (.tup (ms.map V.int))) b (.tup [.int act, .ref c]) = M3 at *
          have F3 := KF.at FP hJF
          have th3 := KF.at th0 thJ
          refine ⟨F3, small1000 (by rw [al.length]; omega), _, _, _, _, _, rs ++ [(act, ms)], fs ++ [.ref b], n2, es, by rw [List.length_append, List.length_singleton, lr], upd_same, by rw [upd_ne thF]; exact th3, ?_, ?_, by omega, ?_, ?_⟩
          · exact paired_snoc (al.mono fun v q h => (h.keep KF).put) ⟨b, c, rfl, bp, bF, cp, cF, by rw [upd_ne bF]; exact hb, by rw [upd_ne cF]; exact hc⟩
          · intro q hq
            rcases List.mem_append.mp hq with hq | hq
            · exact inW q hq
            · rw [List.mem_singleton.mp hq]
              exact ⟨by show -2 ≤ act; omega, by show act ≤ 4; omega, hms, l4, hm⟩
          · exact D.write hF (KJ.trans KF) Db
          · exact (KJ.trans KF).write hF FP
        refine ⟨_, rfl, 1, rfl, rfl, _, rfl, ?_⟩
        have vd : decide (V.int act = (fun i => V.int (-i)) 1) = decide (act = -1) := by
          show decide (V.int act = V.int (-1)) = _
          simp only [V.int.injEq]
        rw [vd]
        have lm : (ys.map V.int).length = ys.length := List.length_map ..
        by_cases ha : act = -1
        · rw [decide_eq_true ha]
          refine iteT ⟨_, rfl, .inl ⟨rfl, _, SqL.of FM⟩, _, rfl, _, rfl, 1, rfl, N, _, rfl, SqL.of hN, fun s1 gs => ?_⟩
          have ec : cutV (ys.map V.int) none (some 1) = (ys.take 1).map V.int := by
            rw [List.map_take]
            exact cut_to _ 1 (by omega)
          rw [ec] at *
          refine ⟨s1, _, rfl, .inl ⟨SqL.of upd_same, fun c gc => ⟨by show 2 ≤ sizeLine; decide, fun b gb => ?_⟩⟩⟩
          obtain ⟨h1, h2, h3⟩ := push _ c b (ys.take 1) _ rfl (Keep.new gs) (DM.put gs) gc gb (fun e => by
            have := congrArg List.length e
            rw [List.length_take, List.length_nil] at this
            omega) (by rw [List.length_take]; omega) fun x hx => hys x (List.mem_of_mem_take hx)
          exact ⟨F, fs, _, rfl, rfl, h1, h2, h3⟩
        · rw [decide_eq_false ha]
          obtain ⟨m, em⟩ : ∃ m : Nat, act = (m : Int) := ⟨act.toNat, by omega⟩
          have lmm : m < ys.length := by omega
          have ec1 : cutV (ys.map V.int) none (some act) = (ys.take m).map V.int := by
            rw [em, List.map_take]
            exact cut_to _ m (by omega)
          have ec2 : cutV (ys.map V.int) (some (act + 1)) none = (ys.drop (m + 1)).map V.int := by
            rw [em, List.map_drop]
            exact cut_from _ (m + 1) (by omega)
          refine iteF ⟨_, rfl, .inl ⟨rfl, _, SqL.of FM⟩, _, rfl, _, rfl, _, rfl, _, rfl, N, _, rfl, SqL.of hN, fun s1 gs1 => ?_⟩
          rw [ec1]
          have hs1 : upd M s1 (.lst ((ys.take m).map V.int)) s1 = some (.lst ((ys.take m).map V.int)) := upd_same
          have Ks1 : Keep p M (upd M s1 (.lst ((ys.take m).map V.int))) := Keep.new gs1
          have Ds1 := DM.put gs1 (o := .lst ((ys.take m).map V.int))
          have Ns1 := Ks1.at NP hN
          generalize upd M s1 (.lst ((ys.take m).map V.int)) = M1 at *
          refine ⟨1, rfl, by show 1 ≤ sizeLine; decide, fun s2 gs2 => ?_⟩
          have hs12 : upd M1 s2 (.lst [.int (-1)]) s1 = some (.lst ((ys.take m).map V.int)) := same_new gs2 _ _ hs1
          refine ⟨s1, s2, _, _, rfl, rfl, hs12, upd_same, Nat.le_trans (by rw [List.length_map, List.length_take, List.length_singleton]; omega : _ ≤ 200) (by decide), fun s3 gs3 => ?_⟩
          have K3' := (Keep.new (p := p) gs2 (o := .lst [.int (-1)])).trans (Keep.new gs3 (o := .lst ((ys.take m).map V.int ++ [.int (-1)])))
          have D3' := (Ds1.put gs2 (o := .lst [.int (-1)])).put gs3 (o := .lst ((ys.take m).map V.int ++ [.int (-1)]))
          have hs3 : upd (upd M1 s2 (.lst [.int (-1)])) s3 (.lst ((ys.take m).map V.int ++ [.int (-1)])) s3 = some (.lst ((ys.take m).map V.int ++ [.int (-1)])) := upd_same
          refine ⟨_, rfl, _, rfl, _, _, rfl, rfl, _, rfl, N, _, rfl, SqL.of (K3'.at NP Ns1), fun s4 gs4 => ?_⟩
          rw [ec2]
          refine ⟨s3, s4, _, _, rfl, rfl, same_new gs4 _ _ hs3, upd_same, Nat.le_trans (by simp only [List.length_append, List.length_map, List.length_take, List.length_singleton, List.length_drop]; omega : _ ≤ 200) (by decide), fun s5 gs5 => ?_⟩
          have eM : (ys.take m).map V.int ++ [V.int (-1)] ++ (ys.drop (m + 1)).map V.int = (ys.take m ++ [-1] ++ ys.drop (m + 1)).map V.int := by
            rw [List.map_append, List.map_append]
            rfl
          rw [eM]
          refine ⟨s5, _, rfl, .inl ⟨SqL.of upd_same, fun c gc => ⟨by show 2 ≤ sizeLine; decide, fun b gb => ?_⟩⟩⟩
          obtain ⟨h1, h2, h3⟩ := push _ c b (ys.take m ++ [-1] ++ ys.drop (m + 1)) _ rfl ((Ks1.trans K3').trans ((Keep.new gs4).trans (Keep.new gs5))) ((D3'.put gs4).put gs5) gc gb (fun e => by
            have := congrArg List.length e
            rw [List.length_append, List.length_append, List.length_singleton, List.length_nil] at this
            omega) (by simp only [List.length_append, List.length_take, List.length_singleton, List.length_drop]; omega) fun x hx => by
              rcases List.mem_append.mp hx with hx | hx
              · rcases List.mem_append.mp hx with hx | hx
                · exact hys x (List.mem_of_mem_take hx)
                · rw [List.mem_singleton.mp hx]
                  exact ⟨by decide, by decide⟩
              · exact hys x (List.mem_of_mem_drop hx)
          exact ⟨F, fs, _, rfl, rfl, h1, h2, h3⟩
    · rintro σ J ⟨y4, y5, y6, y7, y8, rs, fs, n', rfl, lr, hJF, thJ, al, inW, hn', DJ, KJ⟩
      refine ⟨_, rfl, F, fs, rfl, .inl ⟨SqL.of hJF, fun t ht => ?_⟩⟩
      exact k rs t fs _ n' (by omega) inW (SqT.of upd_same) ((Keep.new ht).all (wrows_dp al)) (by omega) (DJ.put ht) (KJ.trans (Keep.new ht))
end

/-! ### numbers as data -/
theorem dp_ints {K : PySem.W.Frag} {H : Hp} : ∀ {vs : List V} {ns : List Int}, DpAll K H vs (ns.map PyData.int) → vs = ns.map V.int
  | [], [], _ => rfl
  | _ :: _, _ :: ns, .cons (.int _) t => by rw [dp_ints (ns := ns) t]; rfl

/-! ### a way put otherwise -/
theorem dp_wrow {K : PySem.W.Frag} {H : Hp} {v : V} {q : Int × List Int} (h : Dp K H v (wrowD q)) : ∃ b c : Addr, v = .ref b ∧ SqT K H b [.int q.1, .ref c] ∧ SqT K H c (q.2.map V.int) := by
  cases h with
  | tup h1 h2 =>
    cases h2 with
    | cons a h2 =>
    cases h2 with
    | cons b h2 =>
    cases h2
    cases a
    cases b with
    | tup v1 v2 => exact ⟨_, _, rfl, h1, dp_ints v2 ▸ v1⟩
def sp_oway (K : PySem.W.Frag) : Sp := fun vs H Q _ => ∃ (p th : Addr) (v : V) (z r g : Int) (n : Nat) (rs : List (Int × List Int)), vs = [.ref p, .ref th, v] ∧ H th = some (.tup [.int z, .int r, .int g]) ∧ 2 ≤ z ∧ z ≤ 4 ∧ Dt K p H v (wayT rs) ∧ InWay rs ∧ 0 < rs.length ∧ rs.length ≤ 201 ∧ Deck K H p n ∧ n < 800000 ∧
  ∀ (rs' : List (Int × List Int)) (v' : V) (J : Hp) (n' : Nat), Dt K p J v' (wayT rs') → InWay rs' → rs'.length = rs.length → n' ≤ n + 5 → Deck K J p n' → Keep p H J → Q v' J
section
variable {P : Program} {w : World} {K : PySem.W.Frag} {mg : Str → Option Value} {base : Heap}
theorem ok_oway (T : Txt K mg) : FnOk P w K mg base CX0 3 T.a_otherwise T.d_otherwise ["_law_deck_here", "_law_house", "_law_value"] (sp_oway K) := by
  have G_draw : FnOk P w K mg base CX0 1 T.a_draw T.d_draw ["_law_deck_here", "_law_many"] (sp_draw K) := ok_draw T
  have G_one : FnOk P w K mg base CX0 2 T.a_one T.d_one ["_law_deck_here", "_law_items"] (sp_one K) := ok_one T
  refine T.F_otherwise.ok sc_otherwise (fun vs H Q E h => ?_) (fun cdv A outer s H vs Q E hr h => ?_)
  · obtain ⟨p, th, v, z, r, g, n, rs, rfl, _⟩ := h
    rfl
  · obtain ⟨p, th, v, z, r, g, n, rs, rfl, hth, z2, z4, hv, inW, l0, l201, D, hn, k⟩ := h
    refine ⟨_, (pss_cons (ps_set (i := 3) sc_otherwise.nd rfl (Or.inl rfl) (pe_call G_draw (hr.mono (by omega)) (by rfl) T.g_draw T.F_draw.kp T.b_draw .nil pass0 (pa_cons (pv 0) (pa_cons (pe_callB (id := "len") call_len_seq (by rfl) T.m_len (by decide +kernel) (pa_cons (pv 2) pa_nil)) pa_nil))))
      (pss_cons (ps_asg (pe_ix ix_tup (pv 2) (pv 3) (fun _ _ => rfl)) (pg_tup (by rfl) (pgs_cons (pg_name (i := 4) sc_otherwise.nd rfl (Or.inl rfl)) (pgs_cons (pg_name (i := 5) sc_otherwise.nd rfl (Or.inl rfl)) pgs_nil))))
      (pss_cons (ps_set (i := 6) sc_otherwise.nd rfl (Or.inl rfl) (pe_call G_draw (hr.mono (by omega)) (by rfl) T.g_draw T.F_draw.kp T.b_draw .nil pass0 (pa_cons (pv 0) (pa_cons (pe_callB (id := "len") call_len_seq (by rfl) T.m_len (by decide +kernel) (pa_cons (pv 5) pa_nil)) pa_nil))))
      (pss_cons (ps_set (i := 7) sc_otherwise.nd rfl (Or.inl rfl) (pe_call G_one (hr.mono (by omega)) (by rfl) T.g_one T.F_one.kp T.b_one .nil pass0 (pa_cons (pv 0) (pa_cons (pe_lst (pa_cons (pe_un un_neg pe_int) (pa_cons (pe_un un_neg pe_int) (pa_cons pe_int (pa_cons (pv 3) (pa_cons (pe_op op_add (pv 3) pe_int) (pa_cons (pe_op op_sub (pe_callB (id := "len") call_len_seq (by rfl) T.m_len (by decide +kernel) (pa_cons (pv 2) pa_nil)) pe_int) (pa_cons (pe_callB (id := "len") call_len_seq (by rfl) T.m_len (by decide +kernel) (pa_cons (pv 2) pa_nil)) pa_nil)))))))) pa_nil))))
      (Evl.pss_cut (ps_if (pt_cmpR op_eq (pe_call G_draw (hr.mono (by omega)) (by rfl) T.g_draw T.F_draw.kp T.b_draw .nil pass0 (pa_cons (pv 0) (pa_cons pe_int pa_nil))) pe_int (nomark _))
        (pss_one (ps_set (i := 4) sc_otherwise.nd rfl (Or.inl rfl) (pe_call G_one (hr.mono (by omega)) (by rfl) T.g_one T.F_one.kp T.b_one .nil pass0 (pa_cons (pv 0) (pa_cons (pe_lst (pa_cons (pe_un un_neg pe_int) (pa_cons (pe_un un_neg pe_int) (pa_cons pe_int (pa_cons (pe_op op_sub (pe_ix ix_tup (pv 1) pe_int (fun _ _ => rfl)) pe_int) (pa_cons (pe_ix ix_tup (pv 1) pe_int (fun _ _ => rfl)) pa_nil)))))) pa_nil)))))
        pss_nil)
      (pss_cons (ps_set (i := 8) sc_otherwise.nd rfl (Or.inl rfl) (pe_op op_catS (pe_op op_catS (pe_slice sl_tupS (pv 5) po_none (po_some (pv 6))) (pe_tup (pa_cons (pv 7) pa_nil))) (pe_slice sl_tupS (pv 5) (po_some (pe_op op_add (pv 6) pe_int)) po_none)))
      (pss_one (ps_ret (pe_op op_catS (pe_op op_catS (pe_slice sl_tupS (pv 2) po_none (po_some (pv 3))) (pe_tup (pa_cons (pe_tup (pa_cons (pv 4) (pa_cons (pv 8) pa_nil))) pa_nil))) (pe_slice sl_tupS (pv 2) (po_some (pe_op op_add (pv 3) pe_int)) po_none)))))))))), ?_⟩
    have th0 : th ≠ p := D.ne_tup hth
    obtain ⟨tv, xv, rfl, htv, hal⟩ := hv.get
    have lx : xv.length = rs.length := by rw [dpAll_len hal, List.length_map]
    have big : ∀ {q : Nat}, q ≤ 9000 → q ≤ sizeLine := fun h => Nat.le_trans h (by decide)
    refine ⟨_, rfl, _, rfl, tv, xv, rfl, .inr htv, p, _, n, rfl, by omega, by omega, D, by omega, fun sp J1 s0 s1 D1 K1 => ?_⟩
    obtain ⟨j, rfl⟩ : ∃ j : Nat, sp = (j : Int) := ⟨sp.toNat, (Int.toNat_of_nonneg s0).symm⟩
    have hj : j < rs.length := by omega
    have htv1 := D.sqt K1 htv
    have al1 := K1.all hal
    obtain ⟨x, hx⟩ : ∃ x, xv[j]? = some x := ⟨_, List.getElem?_eq_getElem (by omega)⟩
    obtain ⟨d, hd, xd⟩ := dpAll_get al1 hx
    obtain ⟨q, hq, rfl⟩ : ∃ q, rs[j]? = some q ∧ d = wrowD q := by
      rw [List.getElem?_map] at hd
      cases e : rs[j]? with
      | none => rw [e] at hd; cases hd
      | some q => rw [e] at hd; exact ⟨q, rfl, (Option.some.inj hd).symm⟩
    obtain ⟨qa, qn⟩ := q
    have rowq : WRow (qa, qn) := inW _ (List.mem_of_getElem? hq)
    obtain ⟨w0, w1, w2, w3, w4⟩ := rowq
    have w2' : 0 < qn.length := List.length_pos_iff.mpr w2
    obtain ⟨b, c, rfl, hb, hc⟩ := dp_wrow (dpSame off_in _ _ xd)
    have lq : (qn.map V.int).length = qn.length := List.length_map ..
    refine ⟨_, rfl, _, rfl, tv, xv, (j : Int), _, rfl, rfl, htv1, atI_nat hx, b, _, rfl, hb, rfl, _, _, rfl, _, _, rfl, rfl, ?_⟩
    have w3' : qn.length ≤ 4 := w3
    refine ⟨_, rfl, _, rfl, c, _, rfl, .inr hc, p, _, n + 1, rfl, by rw [lq]; omega, by rw [lq]; omega, D1, by omega, fun at_ J2 a0 a1 D2 K2 => ?_⟩
    rw [lq] at a1
    obtain ⟨i, rfl⟩ : ∃ i : Nat, at_ = (i : Int) := ⟨at_.toNat, (Int.toNat_of_nonneg a0).symm⟩
    have hi : i < qn.length := by omega
    have K12 := K1.trans K2
    have htv2 := D1.sqt K2 htv1
    have hc2 := D1.sqt K2 hc
    -- a number
    refine ⟨_, rfl, 1, rfl, 2, rfl, _, rfl, _, rfl, _, _, rfl, rfl, _, rfl, tv, xv, rfl, .inr htv2, _, _, rfl, rfl, _, rfl, tv, xv, rfl, .inr htv2, by show 7 ≤ sizeLine; decide, fun l gl => ?_⟩
    refine ⟨p, l, _, n + 2, rfl, SqL.of upd_same, D2.ne_new gl, by show 0 < 7; decide, by show 7 < 100000; decide, D2.put gl, by omega, fun oi ov J3 hov D3 K3 => ?_⟩
    obtain ⟨number, rfl, n0, n1⟩ : ∃ y : Int, ov = .int y ∧ -2 ≤ y ∧ y ≤ 201 := by
      have m := List.mem_of_getElem? hov
      simp only [List.mem_cons, List.not_mem_nil, or_false] at m
      rcases m with m | m | m | m | m | m | m
      · exact ⟨_, m, by decide, by decide⟩
      · exact ⟨_, m, by decide, by decide⟩
      · exact ⟨_, m, by decide, by decide⟩
      · exact ⟨_, m, by omega, by omega⟩
      · exact ⟨_, m, by omega, by omega⟩
      · exact ⟨_, m, by omega, by omega⟩
      · exact ⟨_, m, by omega, by omega⟩
    have K23 : Keep p J2 J3 := (Keep.new gl).trans K3
    have K03 := K12.trans K23
    have htv3 := D2.sqt K23 htv2
    have hc3 := D2.sqt K23 hc2
    clear hov K3
    refine ⟨fun σ' J => ∃ (act : Int) (n4 : Nat), σ' = [some (.ref p), some (.ref th), some (.ref tv), some (.int (j : Int)), some (.int act), some (.ref c), some (.int (i : Int)), some (.int number), none] ∧ -2 ≤ act ∧ act ≤ 4 ∧ n4 ≤ n + 5 ∧ Deck K J p n4 ∧ Keep p J3 J, ?_, ?_⟩
    · refine ⟨_, rfl, p, 4, n + 3, rfl, by decide, by decide, D3, by omega, fun y J4 y0 y1 D4 K4 => ⟨rfl, _, rfl, ite2 (fun _ => ?_) (fun _ => ⟨qa, n + 4, rfl, w0, w1, by omega, D4, K4⟩)⟩⟩
      have th4 := (K03.trans K4).at th0 hth
      refine ⟨_, rfl, 2, rfl, 1, rfl, _, rfl, th, _, 0, _, rfl, rfl, SqT.of th4, rfl, _, _, rfl, rfl, _, rfl, th, _, 0, _, rfl, rfl, SqT.of th4, rfl, by show 5 ≤ sizeLine; decide, fun l2 gl2 => ?_⟩
      refine ⟨p, l2, _, n + 4, rfl, SqL.of upd_same, D4.ne_new gl2, by show 0 < 5; decide, by show 5 < 100000; decide, D4.put gl2, by omega, fun oi2 ov2 J5 hov2 D5 K5 => ?_⟩
      obtain ⟨act, rfl, b0, b1⟩ : ∃ y : Int, ov2 = .int y ∧ -2 ≤ y ∧ y ≤ 4 := by
        have m := List.mem_of_getElem? hov2
        simp only [List.mem_cons, List.not_mem_nil, or_false] at m
        rcases m with m | m | m | m | m
        · exact ⟨_, m, by decide, by decide⟩
        · exact ⟨_, m, by decide, by decide⟩
        · exact ⟨_, m, by decide, by decide⟩
        · exact ⟨_, m, by omega, by omega⟩
        · exact ⟨_, m, by omega, by omega⟩
      exact ⟨act, n + 5, rfl, b0, b1, by omega, D5, (K4.trans (Keep.new gl2)).trans K5⟩
    · rintro σ' J4 ⟨act, n4, rfl, b0, b1, hn4, D4, K4⟩
      have htv4 := D3.sqt K4 htv3
      have hc4 := D3.sqt K4 hc3
      have K04 := K03.trans K4
      have al4 := K04.all hal
      refine ⟨_, rfl, _, rfl, _, rfl, c, _, rfl, hc4, fun t1 M1 e1 s1 => ?_⟩
      rw [cut_to _ i (by rw [lq]; omega), ← List.map_take] at e1
      refine ⟨_, rfl, by show 1 ≤ sizeLine; decide, fun t2 g2 => ?_⟩
      have s2 : Same M1 (upd M1 t2 (.tup [.int number])) := same_new g2
      refine ⟨t1, t2, _, _, rfl, rfl, sameT s2 e1, SqT.of upd_same, big (by rw [List.length_map, List.length_take, List.length_singleton]; omega), fun t3 M3 e3 s3 => ?_⟩
      have S3 := (s1.trans s2).trans s3
      refine ⟨_, rfl, _, rfl, _, _, rfl, rfl, _, rfl, c, _, rfl, sameT S3 hc4, fun t4 M4 e4 s4 => ?_⟩
      have e4' : SqT K M4 t4 ((qn.drop (i + 1)).map V.int) := by
        have z := cut_from (qn.map V.int) (i + 1) (by omega)
        rw [List.map_drop, ← z]
        exact e4
      refine ⟨t3, t4, _, _, rfl, rfl, sameT s4 e3, e4', big (by simp only [List.length_append, List.length_map, List.length_take, List.length_singleton, List.length_drop]; omega), fun t5 M5 e5 s5 => ?_⟩
      have S5 := (S3.trans s4).trans s5
      have em : (qn.take i).map V.int ++ [V.int number] ++ (qn.drop (i + 1)).map V.int = (qn.take i ++ [number] ++ qn.drop (i + 1)).map V.int := by
        rw [List.map_append, List.map_append]
        rfl
      rw [em] at e5
      obtain ⟨ms, ems⟩ : ∃ ms, ms = qn.take i ++ [number] ++ qn.drop (i + 1) := ⟨_, rfl⟩
      rw [← ems] at e5
      have lms : ms.length = qn.length := by
        rw [ems]
        simp only [List.length_append, List.length_take, List.length_singleton, List.length_drop]
        omega
      have inM : ∀ x ∈ ms, -2 ≤ x ∧ x ≤ 201 := fun x hx => by
        rw [ems] at hx
        rcases List.mem_append.mp hx with hx | hx
        · rcases List.mem_append.mp hx with hx | hx
          · exact w4 x (List.mem_of_mem_take hx)
          · rw [List.mem_singleton.mp hx]
            exact ⟨n0, n1⟩
        · exact w4 x (List.mem_of_mem_drop hx)
      have D5 := D4.of_same S5
      have K45 : Keep p J4 M5 := Keep.of_same S5
      refine ⟨_, rfl, _, rfl, _, rfl, tv, xv, rfl, sameT S5 htv4, fun u1 N1 f1 r1 => ?_⟩
      rw [cut_to xv j (by omega)] at f1
      refine ⟨_, rfl, _, rfl, by show 2 ≤ sizeLine; decide, fun u2 h2 => ⟨by show 1 ≤ sizeLine; decide, fun u3 h3 => ?_⟩⟩
      have D6 := D5.of_same r1
      have dR : Dt K p (upd N1 u2 (.tup [.int act, .ref t5])) (.ref u2) (wrowD (act, ms)) := dt_tup (D6.ne_new h2) h2 (.cons (.int act) (.cons (dt_of D6 (sameT r1 e5) (ints_dp ms)) .nil))
      have r2 : Same N1 (upd N1 u2 (.tup [.int act, .ref t5])) := same_new h2
      have r3 : Same (upd N1 u2 (.tup [.int act, .ref t5])) (upd (upd N1 u2 (.tup [.int act, .ref t5])) u3 (.tup [.ref u2])) := same_new h3
      have dR3 := (Keep.of_same (p := p) r3).dt dR
      have f13 := sameT (r2.trans r3) f1
      have h33 : SqT K (upd (upd N1 u2 (.tup [.int act, .ref t5])) u3 (.tup [.ref u2])) u3 [.ref u2] := SqT.of upd_same
      have R3 : Same M5 (upd (upd N1 u2 (.tup [.int act, .ref t5])) u3 (.tup [.ref u2])) := (r1.trans r2).trans r3
      show rCatS _ _ _ (upd (upd N1 u2 (.tup [.int act, .ref t5])) u3 (.tup [.ref u2])) _
      generalize upd (upd N1 u2 (.tup [.int act, .ref t5])) u3 (.tup [.ref u2]) = N3 at *
      refine ⟨u1, u3, _, _, rfl, rfl, f13, h33, big (by rw [List.length_take, List.length_singleton]; omega), fun u4 N4 f4 r4 => ?_⟩
      refine ⟨_, rfl, _, rfl, _, _, rfl, rfl, _, rfl, tv, xv, rfl, sameT ((S5.trans R3).trans r4) htv4, fun u5 N5 f5 r5 => ?_⟩
      have f5' : SqT K N5 u5 (xv.drop (j + 1)) := by
        have z := cut_from xv (j + 1) (by omega)
        rw [← z]
        exact f5
      refine ⟨u4, u5, _, _, rfl, rfl, sameT r5 f4, f5', big (by simp only [List.length_append, List.length_take, List.length_singleton, List.length_drop]; omega), fun u6 N6 f6 r6 => ?_⟩
      have S6 := (((S5.trans R3).trans r4).trans r5).trans r6
      have KS6 : Keep p J4 N6 := Keep.of_same S6
      have D7 := D4.of_same S6
      have al6 := KS6.all al4
      have dR6 := (Keep.of_same (p := p) ((r4.trans r5).trans r6)).dt dR3
      refine k (rs.take j ++ [(act, ms)] ++ rs.drop (j + 1)) (.ref u6) N6 n4 (dt_of D7 f6 ?_) (fun q hq => ?_) (by simp only [List.length_append, List.length_take, List.length_singleton, List.length_drop]; omega) hn4 D7 (K04.trans KS6)
      · rw [List.map_append, List.map_append, List.map_take, List.map_drop]
        exact dpAll_append (dpAll_append (dpAll_take j al6) (.cons dR6 .nil)) (dpAll_drop (j + 1) al6)
      · rcases List.mem_append.mp hq with hq | hq
        · rcases List.mem_append.mp hq with hq | hq
          · exact inW q (List.mem_of_mem_take hq)
          · rw [List.mem_singleton.mp hq]
            exact ⟨b0, b1, fun e => by rw [show ms = [] from e] at lms; simp at lms; omega, by show ms.length ≤ 4; omega, inM⟩
        · exact inW q (List.mem_of_mem_drop hq)
end

/-! ### data behind the deck and behind a list that is still written -/
abbrev off2 (p L : Addr) (H : Hp) : Hp := off L (off p H)
theorem off2_in {p L : Addr} {H : Hp} : Same (off2 p L H) H := off_in.trans off_in
theorem off2_off {p L : Addr} {H : Hp} : Same (off2 p L H) (off p H) := off_in
abbrev Dt2 (K : PySem.W.Frag) (p L : Addr) (H : Hp) (v : V) (d : PyData) : Prop := Dp K (off2 p L H) v d
/-- L holds a list -/
def Hid (H : Hp) (L : Addr) : Prop := ∃ ys, H L = some (.lst ys)
theorem Hid.ne {H : Hp} {L t : Addr} (h : Hid H L) (ht : H t = none) : t ≠ L := fun e => by
  obtain ⟨ys, hL⟩ := h
  rw [e, hL] at ht
  cases ht
theorem Hid.keep {p L : Addr} {H J : Hp} (h : Hid H L) (Lp : L ≠ p) (k : Keep p H J) : Hid J L := h.imp fun _ e => k.at Lp e
theorem Hid.same {L : Addr} {H J : Hp} (h : Hid H L) (S : Same H J) : Hid J L := h.imp fun _ e => S _ _ e
theorem off_mono2 {L : Addr} {H J : Hp} (S : Same H J) : Same (off L H) (off L J) := fun b o e =>
  let ⟨n, h, nt⟩ := off_some e
  off_at n (S b o h) nt
theorem Keep.s2 {p L : Addr} {H J : Hp} (k : Keep p H J) : Same (off2 p L H) (off2 p L J) := off_mono2 k.s
theorem Keep.dt2 {K : PySem.W.Frag} {p L : Addr} {H J : Hp} {v : V} {d : PyData} (k : Keep p H J) (h : Dt2 K p L H v d) : Dt2 K p L J v d := dpSame k.s2 d v h
theorem Keep.all2 {K : PySem.W.Frag} {p L : Addr} {H J : Hp} {vs : List V} {ds : List PyData} (k : Keep p H J) (h : DpAll K (off2 p L H) vs ds) : DpAll K (off2 p L J) vs ds := dpAllSame k.s2 ds vs h
theorem tup_hid {K : PySem.W.Frag} {L t : Addr} {H : Hp} {xs : List V} (hL : Hid H L) (h : SqT K H t xs) : SqT K (off L H) t xs := by
  obtain ⟨ys, e⟩ := hL
  exact tup_off e h
theorem off_hid {p L : Addr} {H : Hp} (Lp : L ≠ p) (hL : Hid H L) : Hid (off p H) L := hL.imp fun _ e => off_at Lp e
/-- the deck, and a list that is still written -/
structure Deck2 (K : PySem.W.Frag) (H : Hp) (p L : Addr) (n : Nat) : Prop where
  dk : Deck K H p n
  hid : Hid H L
  ne : L ≠ p
theorem Deck2.put {K : PySem.W.Frag} {H : Hp} {p L q : Addr} {n : Nat} {o : HO} (D : Deck2 K H p L n) (h : H q = none) : Deck2 K (upd H q o) p L n := ⟨D.dk.put h, D.hid.same (same_new h), D.ne⟩
theorem Deck2.ne_new {K : PySem.W.Frag} {H : Hp} {p L q : Addr} {n : Nat} (D : Deck2 K H p L n) (h : H q = none) : q ≠ p := D.dk.ne_new h
theorem Deck2.same {K : PySem.W.Frag} {H J : Hp} {p L : Addr} {n : Nat} (D : Deck2 K H p L n) (S : Same H J) : Deck2 K J p L n := ⟨D.dk.of_same S, D.hid.same S, D.ne⟩
theorem Deck2.to {K : PySem.W.Frag} {H J : Hp} {p L : Addr} {n m : Nat} (D : Deck2 K H p L n) (k : Keep p H J) (E : Deck K J p m) : Deck2 K J p L m := ⟨E, D.hid.keep D.ne k, D.ne⟩
theorem dt_tup2 {K : PySem.W.Frag} {p L t : Addr} {n : Nat} {H : Hp} {vs : List V} {ds : List PyData} (D : Deck2 K H p L n) (ht : H t = none) (h : DpAll K (off2 p L H) vs ds) : Dt2 K p L (upd H t (.tup vs)) (.ref t) (.tuple ds) :=
  .tup (SqT.of (off_at (D.hid.ne ht) (off_at (D.ne_new ht) upd_same))) (Keep.all2 (Keep.new ht) h)
theorem dt_lst2 {K : PySem.W.Frag} {p L t : Addr} {n : Nat} {H : Hp} {vs : List V} {ds : List PyData} (D : Deck2 K H p L n) (ht : H t = none) (h : DpAll K (off2 p L H) vs ds) : Dt2 K p L (upd H t (.lst vs)) (.ref t) (.list ds) :=
  .lst (SqL.of (off_at (D.hid.ne ht) (off_at (D.ne_new ht) upd_same))) (Keep.all2 (Keep.new ht) h)
theorem dt_of2 {K : PySem.W.Frag} {p L t : Addr} {n : Nat} {H : Hp} {xs : List V} {ds : List PyData} (D : Deck2 K H p L n) (h : SqT K H t xs) (a : DpAll K (off2 p L H) xs ds) : Dt2 K p L H (.ref t) (.tuple ds) := by
  obtain ⟨_, _, _, _, hp, _⟩ := id D.dk
  exact .tup (tup_hid (off_hid D.ne D.hid) (tup_off hp h)) a
theorem Dt2.get {K : PySem.W.Frag} {p L : Addr} {H : Hp} {v : V} {ds : List PyData} (h : Dt2 K p L H v (.tuple ds)) : ∃ (a : Addr) (xs : List V), v = .ref a ∧ SqT K H a xs ∧ DpAll K (off2 p L H) xs ds := by
  cases h with | tup h1 h2 => exact ⟨_, _, rfl, sameT off2_in h1, h2⟩
theorem Dt2.dt {K : PySem.W.Frag} {p L : Addr} {H : Hp} {v : V} {d : PyData} (h : Dt2 K p L H v d) : Dt K p H v d := dpSame off2_off d v h
/-- what is hidden is written, the rest stays -/
theorem off2_upd {p L : Addr} {H : Hp} {o : HO} : Same (off2 p L H) (off2 p L (upd H L o)) := fun b u e => by
  obtain ⟨n, h, nt⟩ := off_some e
  obtain ⟨n2, h2, _⟩ := off_some h
  exact off_at n (off_at n2 (by rw [upd_ne n]; exact h2) nt) nt
mutual
def noList : PyData → Bool
  | .list _ => false
  | .dict _ => false
  | .tuple ds => noLists ds
  | _ => true
def noLists : List PyData → Bool
  | [] => true
  | d :: ds => noList d && noLists ds
end
mutual
theorem hide_tup {K : PySem.W.Frag} {L : Addr} {H : Hp} (hL : Hid H L) : ∀ (d : PyData) (v : V), noList d = true → Dp K H v d → Dp K (off L H) v d
  | .none, _, _, h => by cases h; exact .non
  | .bool b, _, _, h => by cases h; exact .bl _
  | .int i, _, _, h => by cases h; exact .int _
  | .str x, _, _, h => by cases h; exact .str _
  | .list ds, _, n, _ => by cases n
  | .dict ds, _, n, _ => by cases n
  | .tuple ds, _, n, h => by
    cases h with
    | tup h1 h2 => exact .tup (tup_hid hL h1) (hide_tups hL ds _ n h2)
theorem hide_tups {K : PySem.W.Frag} {L : Addr} {H : Hp} (hL : Hid H L) : ∀ (ds : List PyData) (vs : List V), noLists ds = true → DpAll K H vs ds → DpAll K (off L H) vs ds
  | [], _, _, h => by cases h; exact .nil
  | d :: ds, _, n, h => by
    have n' : noList d = true ∧ noLists ds = true := by simpa only [noLists, Bool.and_eq_true] using n
    cases h with
    | cons h1 h2 => exact .cons (hide_tup hL d _ n'.1 h1) (hide_tups hL ds _ n'.2 h2)
end
theorem Dt.hide {K : PySem.W.Frag} {p L : Addr} {H : Hp} {v : V} {d : PyData} (Lp : L ≠ p) (hL : Hid H L) (n : noList d = true) (h : Dt K p H v d) : Dt2 K p L H v d := hide_tup (off_hid Lp hL) d v n h
theorem hide_new {p L : Addr} {H : Hp} {o : HO} (h : H L = none) : Same (off p H) (off2 p L (upd H L o)) := fun b u e => by
  obtain ⟨n, hb, nt⟩ := off_some e
  have nL := ne_of_none hb h
  exact off_at nL (off_at n (by rw [upd_ne nL]; exact hb) nt) nt

/-- on the way through a list of data: what has been made so far, behind a list that stands at la -/
structure Way2 (K : PySem.W.Frag) (p L : Addr) (n : Nat) (la : Addr) (xs : List V) (H0 H : Hp) (vs : List V) (ds : List PyData) : Prop where
  dk : Deck2 K H p L n
  al : DpAll K (off2 p L H) vs ds
  la : H la = some (.lst xs)
  kp : Keep p H0 H
section
variable {K : PySem.W.Frag} {p L la t : Addr} {n : Nat} {xs vs us : List V} {ds es : List PyData} {H0 H : Hp}
theorem Way2.step {o : HO} (w : Way2 K p L n la xs H0 H vs ds) (h : H t = none) : Way2 K p L n la xs H0 (upd H t o) vs ds :=
  ⟨w.dk.put h, Keep.all2 (Keep.new h) w.al, by rw [upd_ne (ne_of_none w.la h)]; exact w.la, w.kp.trans (Keep.new h)⟩
theorem Way2.tup (w : Way2 K p L n la xs H0 H vs ds) (h : H t = none) (a : DpAll K (off2 p L H) us es) : Dt2 K p L (upd H t (.tup us)) (.ref t) (.tuple es) := dt_tup2 w.dk h a
theorem Way2.lst (w : Way2 K p L n la xs H0 H vs ds) (h : H t = none) (a : DpAll K (off2 p L H) us es) : Dt2 K p L (upd H t (.lst us)) (.ref t) (.list es) := dt_lst2 w.dk h a
theorem Way2.add {v : V} {d : PyData} (w : Way2 K p L n la xs H0 H vs ds) (a : Dt2 K p L H v d) : Way2 K p L n la xs H0 H (vs ++ [v]) (ds ++ [d]) := ⟨w.dk, dpAll_snoc w.al a, w.la, w.kp⟩
end
def sp_odd2 (K : PySem.W.Frag) : Sp := fun vs H Q _ => ∃ (p L : Addr) (n : Nat), vs = [.ref p] ∧ Deck2 K H p L n ∧ n < 900000 ∧
  ∀ (v : V) (d : PyData) (J : Hp), Dt2 K p L J v d → Tiny 140 12 4 d → Deck2 K J p L (n + 1) → Keep p H J → Q v J
section
variable {P : Program} {w : World} {K : PySem.W.Frag} {mg : Str → Option Value} {base : Heap}
theorem ok_odd2 (T : Txt K mg) : FnOk P w K mg base CX0 3 T.a_odd T.d_odd ["_law_deck_here"] (sp_odd2 K) := by
  have G_one : FnOk P w K mg base CX0 2 T.a_one T.d_one ["_law_deck_here", "_law_items"] (sp_one K) := ok_one T
  refine T.F_odd.ok sc_odd (fun vs H Q E h => ?_) (fun cdv A outer s H vs Q E hr h => ?_)
  · obtain ⟨p, L, n, rfl, _⟩ := h
    rfl
  · obtain ⟨p, L, n, rfl, D, hn, k⟩ := h
    refine ⟨_, (pss_cons (ps_set (i := 1) sc_odd.nd rfl (Or.inl rfl) (pe_lst (pa_cons pe_non (pa_cons pe_bl (pa_cons pe_bl (pa_cons pe_int (pa_cons pe_int (pa_cons pe_int (pa_cons (pe_un un_neg pe_int) (pa_cons pe_int (pa_cons (pe_op op_pow pe_int pe_int) (pa_cons pe_str (pa_cons pe_str (pa_cons pe_str (pa_cons pe_str (pa_cons (pe_tup pa_nil) (pa_cons (pe_lst pa_nil) (pa_cons (pe_tup (pa_cons pe_int pa_nil)) (pa_cons (pe_tup (pa_cons pe_int pa_nil)) (pa_cons (pe_lst (pa_cons pe_int pa_nil)) (pa_cons (pe_tup (pa_cons pe_int (pa_cons pe_int pa_nil))) pa_nil)))))))))))))))))))))
      (pss_one (ps_ret (pe_call G_one (hr.mono (by omega)) (by rfl) T.g_one T.F_one.kp T.b_one .nil pass0 (pa_cons (pv 0) (pa_cons (pe_op op_cat (pv 1) (pe_lst (pa_cons (pe_tup (pa_cons pe_bl pa_nil)) (pa_cons (pe_tup (pa_cons pe_int (pa_cons pe_int pa_nil))) (pa_cons (pe_tup (pa_cons pe_int (pa_cons pe_int (pa_cons (pe_tup (pa_cons pe_int pa_nil)) pa_nil)))) (pa_cons (pe_tup (pa_cons (pe_tup (pa_cons pe_int pa_nil)) (pa_cons pe_int pa_nil))) (pa_cons (pe_tup (pa_cons (pe_tup pa_nil) (pa_cons (pe_tup pa_nil) pa_nil))) (pa_cons (pe_tup (pa_cons pe_int (pa_cons (pe_lst (pa_cons pe_int pa_nil)) pa_nil))) (pa_cons (pe_tup (pa_cons (pe_tup (pa_cons pe_int (pa_cons pe_int pa_nil))) (pa_cons (pe_tup (pa_cons pe_int (pa_cons pe_int pa_nil))) pa_nil))) pa_nil))))))))) pa_nil)))))), ?_⟩
    have a0 : DpAll K (off2 p L H) [.non, .bl true, .bl false, .int 0, .int 1, .int 2, .int (-1), .int 7, .int (10 ^ 40), .str "", .str "0", .str "named", .str "wait"] (oddD.take 13) :=
      .cons .non (.cons (.bl _) (.cons (.bl _) (.cons (.int _) (.cons (.int _) (.cons (.int _) (.cons (.int _) (.cons (.int _) (.cons (.int _) (.cons (.str _) (.cons (.str _) (.cons (.str _) (.cons (.str _) .nil))))))))))))
    refine ⟨1, rfl, 10, 40, rfl, rfl, ⟨by decide, by decide, by decide⟩, by show 0 ≤ sizeLine; decide, fun t1 h1 => ?_⟩
    have D1 := D.put (o := .tup []) h1
    have b1 := dpAll_snoc (Keep.all2 (Keep.new h1) a0) (dt_tup2 D h1 .nil)
    refine ⟨by show 0 ≤ sizeLine; decide, fun t2 h2 => ?_⟩
    have D2 := D1.put (o := .lst []) h2
    have b2 := dpAll_snoc (Keep.all2 (Keep.new h2) b1) (dt_lst2 D1 h2 .nil)
    refine ⟨by show 1 ≤ sizeLine; decide, fun t3 h3 => ?_⟩
    have D3 := D2.put (o := .tup [.int 0]) h3
    have b3 := dpAll_snoc (Keep.all2 (Keep.new h3) b2) (dt_tup2 D2 h3 (.cons (.int 0) .nil))
    refine ⟨by show 1 ≤ sizeLine; decide, fun t4 h4 => ?_⟩
    have D4 := D3.put (o := .tup [.int 1]) h4
    have b4 := dpAll_snoc (Keep.all2 (Keep.new h4) b3) (dt_tup2 D3 h4 (.cons (.int 1) .nil))
    refine ⟨by show 1 ≤ sizeLine; decide, fun t5 h5 => ?_⟩
    have D5 := D4.put (o := .lst [.int 0]) h5
    have b5 := dpAll_snoc (Keep.all2 (Keep.new h5) b4) (dt_lst2 D4 h5 (.cons (.int 0) .nil))
    refine ⟨by show 2 ≤ sizeLine; decide, fun t6 h6 => ?_⟩
    have D6 := D5.put (o := .tup [.int 0, .int 0]) h6
    have b6 := dpAll_snoc (Keep.all2 (Keep.new h6) b5) (dt_tup2 D5 h6 (.cons (.int 0) (.cons (.int 0) .nil)))
    refine ⟨by show 19 ≤ sizeLine; decide, fun la hla => ?_⟩
    have b7 := Keep.all2 (Keep.new (p := p) hla (o := .lst [.non, .bl true, .bl false, .int 0, .int 1, .int 2, .int (-1), .int 7, .int (10 ^ 40), .str "", .str "0", .str "named", .str "wait", .ref t1, .ref t2, .ref t3, .ref t4, .ref t5, .ref t6])) b6
    have K7 := (((((((Keep.new (p := p) (o := .tup []) h1).trans (Keep.new (o := .lst []) h2)).trans (Keep.new (o := .tup [.int 0]) h3)).trans (Keep.new (o := .tup [.int 1]) h4)).trans (Keep.new (o := .lst [.int 0]) h5)).trans (Keep.new (o := .tup [.int 0, .int 0]) h6)).trans (Keep.new (o := .lst [.non, .bl true, .bl false, .int 0, .int 1, .int 2, .int (-1), .int 7, .int (10 ^ 40), .str "", .str "0", .str "named", .str "wait", .ref t1, .ref t2, .ref t3, .ref t4, .ref t5, .ref t6]) hla))
    have w7 : Way2 K p L n la _ H _ _ _ := ⟨D6.put hla, b7, upd_same, K7⟩
    refine ⟨_, rfl, _, rfl, by show 1 ≤ sizeLine; decide, fun t7 h7 => ?_⟩
    have w8 := (w7.step h7 (o := .tup [.bl true])).add (w7.tup h7 (.cons (.bl true) .nil))
    refine ⟨by show 2 ≤ sizeLine; decide, fun t8 h8 => ?_⟩
    have w9 := (w8.step h8 (o := .tup [.int 0, .int 1])).add (w8.tup h8 (.cons (.int 0) (.cons (.int 1) .nil)))
    refine ⟨by show 1 ≤ sizeLine; decide, fun t9 h9 => ?_⟩
    have w10 := w9.step h9 (o := .tup [.int 0])
    have i10 := w9.tup h9 (.cons (.int 0) .nil)
    refine ⟨by show 3 ≤ sizeLine; decide, fun t10 h10 => ?_⟩
    have w11 := (w10.step h10 (o := .tup [.int 0, .int 1, .ref t9])).add (w10.tup h10 (.cons (.int 0) (.cons (.int 1) (.cons i10 .nil))))
    refine ⟨by show 1 ≤ sizeLine; decide, fun t11 h11 => ?_⟩
    have w12 := w11.step h11 (o := .tup [.int 0])
    have i12 := w11.tup h11 (.cons (.int 0) .nil)
    refine ⟨by show 2 ≤ sizeLine; decide, fun t12 h12 => ?_⟩
    have w13 := (w12.step h12 (o := .tup [.ref t11, .int 0])).add (w12.tup h12 (.cons i12 (.cons (.int 0) .nil)))
    refine ⟨by show 0 ≤ sizeLine; decide, fun t13 h13 => ?_⟩
    have w14 := w13.step h13 (o := .tup [])
    have i14 := w13.tup h13 .nil
    refine ⟨by show 0 ≤ sizeLine; decide, fun t14 h14 => ?_⟩
    have w15 := w14.step h14 (o := .tup [])
    have i15 := Keep.dt2 (Keep.new h14 (o := .tup [])) i14
    have j15 := w14.tup h14 .nil
    refine ⟨by show 2 ≤ sizeLine; decide, fun t15 h15 => ?_⟩
    have w16 := (w15.step h15 (o := .tup [.ref t13, .ref t14])).add (w15.tup h15 (.cons i15 (.cons j15 .nil)))
    refine ⟨by show 1 ≤ sizeLine; decide, fun t16 h16 => ?_⟩
    have w17 := w16.step h16 (o := .lst [.int 1])
    have i17 := w16.lst h16 (.cons (.int 1) .nil)
    refine ⟨by show 2 ≤ sizeLine; decide, fun t17 h17 => ?_⟩
    have w18 := (w17.step h17 (o := .tup [.int 0, .ref t16])).add (w17.tup h17 (.cons (.int 0) (.cons i17 .nil)))
    refine ⟨by show 2 ≤ sizeLine; decide, fun t18 h18 => ?_⟩
    have w19 := w18.step h18 (o := .tup [.int 0, .int 1])
    have i19 := w18.tup h18 (.cons (.int 0) (.cons (.int 1) .nil))
    refine ⟨by show 2 ≤ sizeLine; decide, fun t19 h19 => ?_⟩
    have w20 := w19.step h19 (o := .tup [.int 1, .int 1])
    have i20 := Keep.dt2 (Keep.new h19 (o := .tup [.int 1, .int 1])) i19
    have j20 := w19.tup h19 (.cons (.int 1) (.cons (.int 1) .nil))
    refine ⟨by show 2 ≤ sizeLine; decide, fun t20 h20 => ?_⟩
    have w21 := (w20.step h20 (o := .tup [.ref t18, .ref t19])).add (w20.tup h20 (.cons i20 (.cons j20 .nil)))
    refine ⟨by show 7 ≤ sizeLine; decide, fun lb hlb => ?_⟩
    have w22 := w21.step hlb (o := .lst [.ref t7, .ref t8, .ref t10, .ref t12, .ref t15, .ref t17, .ref t20])
    refine ⟨la, lb, _, _, rfl, rfl, w22.la, upd_same, by show 26 ≤ sizeLine; decide, fun lc hlc => ?_⟩
    have w23 := w22.step hlc (o := .lst [.non, .bl true, .bl false, .int 0, .int 1, .int 2, .int (-1), .int 7, .int (10 ^ 40), .str "", .str "0", .str "named", .str "wait", .ref t1, .ref t2, .ref t3, .ref t4, .ref t5, .ref t6, .ref t7, .ref t8, .ref t10, .ref t12, .ref t15, .ref t17, .ref t20])
    refine ⟨p, lc, _, n, rfl, SqL.of upd_same, w22.dk.ne_new hlc, by show 0 < 26; decide, by show 26 < 100000; decide, w23.dk.dk, by omega, fun i x J hx DJ KJ => ?_⟩
    obtain ⟨d, hd, xd⟩ := dpAll_get w23.al hx
    exact k x d J (KJ.dt2 xd) (odd_tiny d (List.mem_of_getElem? hd)) (w23.dk.to KJ DJ) (w23.kp.trans KJ)
end

def sp_bent2 (K : PySem.W.Frag) (M : Nat) : Sp := fun vs H Q _ => ∃ (p L : Addr) (v : V) (d : PyData) (m : Int) (n e : Nat), vs = [.ref p, v, .int m] ∧ Dt2 K p L H v d ∧ nice e d = true ∧ 140 ≤ e ∧ e < 1800 ∧ wt d < 100000 ∧ d.depth ≤ 40 ∧ 0 ≤ m ∧ m < (M : Int) ∧
  Deck2 K H p L n ∧ n + 4 * M < 800000 ∧ ∀ (v' : V) (d' : PyData) (J : Hp) (n' : Nat), Dt2 K p L J v' d' → Bent e d d' → n' ≤ n + 4 * M → Deck2 K J p L n' → Keep p H J → Q v' J
section
variable {P : Program} {w : World} {K : PySem.W.Frag} {mg : Str → Option Value} {base : Heap}
theorem ok_bent2 (T : Txt K mg) : ∀ M : Nat, FnOk P w K mg base CX0 (3 + M) T.a_bent T.d_bent ["_law_deck_here", "_law_thing", "_law_deep"] (sp_bent2 K M)
  | 0 => by
    refine ⟨fun vs H Q E h => ?_, fun A outer s H args us vs Q E hr he hb hv h => ?_⟩
    · obtain ⟨p, L, v, d, m, n, e, rfl, _⟩ := h
      rfl
    · obtain ⟨p, L, v, d, m, n, e, rfl, _, _, _, _, _, _, m0, m1, _⟩ := h
      exact absurd m1 (by omega)
  | M + 1 => by
    have G_draw : FnOk P w K mg base CX0 1 T.a_draw T.d_draw ["_law_deck_here", "_law_many"] (sp_draw K) := ok_draw T
    have G_one : FnOk P w K mg base CX0 2 T.a_one T.d_one ["_law_deck_here", "_law_items"] (sp_one K) := ok_one T
    have G_odd : FnOk P w K mg base CX0 3 T.a_odd T.d_odd ["_law_deck_here"] (sp_odd2 K) := ok_odd2 T
    have G_bent := ok_bent2 T M
    refine Fun.ok (k := 3 + M) T.F_bent sc_bent (fun vs H Q E h => ?_) (fun cdv A outer s H vs Q E hr h => ?_)
    · obtain ⟨p, L, v, d, m, n, e, rfl, _⟩ := h
      rfl
    · obtain ⟨p, L, v, d, m, n, e, rfl, hd, hni, e0, e1, hw, hdep, m0, m1, D, hn, k⟩ := h
      refine ⟨_, (pss_cons (ps_if (pt_cut (PW.pt (pw_or (pt_not (pt_val (pe_callB (id := "isinstance") (call_isD "tuple" (by decide)) (by rfl) T.m_isinstance (by decide +kernel) (pa_cons (pv 1) (pa_cons (pe_bltn (v := .ty "tuple") (by rfl) T.m_tuple (by decide +kernel) rfl) pa_nil))))) (pw_or (pt_cmpR (op_eqD hr.units) (pv 1) (pe_tup pa_nil) (nomark _)) (pw_or (pt_cmpR op_eq (pv 2) pe_int (nomark _)) (pw_or1 (pt_cmpR op_eq (pe_call G_draw (hr.mono (by omega)) (by rfl) T.g_draw T.F_draw.kp T.b_draw .nil pass0 (pa_cons (pv 0) (pa_cons pe_int pa_nil))) pe_int (nomark _))))))))
        (pss_cons (ps_if (pt_cut (PW.pt (pw_and (pt_val (pe_callB (id := "isinstance") (call_isD "int" (by decide)) (by rfl) T.m_isinstance (by decide +kernel) (pa_cons (pv 1) (pa_cons (pe_bltn (v := .ty "int") (by rfl) T.m_int (by decide +kernel) rfl) pa_nil)))) (pw_and (pt_not (pt_val (pe_callB (id := "isinstance") (call_isD "bool" (by decide)) (by rfl) T.m_isinstance (by decide +kernel) (pa_cons (pv 1) (pa_cons (pe_bltn (v := .ty "bool") (by rfl) T.m_bool (by decide +kernel) rfl) pa_nil))))) (pw_and1 (pt_cmpR op_eq (pe_call G_draw (hr.mono (by omega)) (by rfl) T.g_draw T.F_draw.kp T.b_draw .nil pass0 (pa_cons (pv 0) (pa_cons pe_int pa_nil))) pe_int (nomark _)))))))
        (pss_one (ps_ret (pe_op op_add (pv 1) (pe_call G_one (hr.mono (by omega)) (by rfl) T.g_one T.F_one.kp T.b_one .nil pass0 (pa_cons (pv 0) (pa_cons (pe_lst (pa_cons pe_int (pa_cons (pe_un un_neg pe_int) (pa_cons pe_int (pa_cons (pe_op op_sub pe_int (pv 1)) pa_nil))))) pa_nil))))))
        pss_nil)
      (pss_one (ps_ret (pe_call G_odd (hr.mono (by omega)) (by rfl) T.g_odd T.F_odd.kp T.b_odd .nil pass0 (pa_cons (pv 0) pa_nil)))))
        pss_nil)
      (pss_cons (ps_par (i := 3) (j := 4) (by rfl) sc_bent.nd rfl rfl (by decide) rfl rfl (pa_cons (pe_call G_draw (hr.mono (by omega)) (by rfl) T.g_draw T.F_draw.kp T.b_draw .nil pass0 (pa_cons (pv 0) (pa_cons (pe_callB (id := "len") call_len_seq (by rfl) T.m_len (by decide +kernel) (pa_cons (pv 1) pa_nil)) pa_nil))) (pa_cons (pe_call G_draw (hr.mono (by omega)) (by rfl) T.g_draw T.F_draw.kp T.b_draw .nil pass0 (pa_cons (pv 0) (pa_cons pe_int pa_nil))) pa_nil)) (by rfl))
      (pss_cons (ps_if (pt_cmpR op_eq (pv 4) pe_int (nomark _))
        (pss_one (ps_ret (pe_op op_catS (pe_slice sl_tupS (pv 1) po_none (po_some (pv 3))) (pe_slice sl_tupS (pv 1) (po_some (pe_op op_add (pv 3) pe_int)) po_none))))
        pss_nil)
      (pss_cons (ps_if (pt_cmpR op_eq (pv 4) pe_int (nomark _))
        (pss_one (ps_ret (pe_op op_catS (pe_op op_catS (pe_slice sl_tupS (pv 1) po_none (po_some (pv 3))) (pe_tup (pa_cons (pe_ix ix_tup (pv 1) (pv 3) (fun _ _ => rfl)) pa_nil))) (pe_slice sl_tupS (pv 1) (po_some (pv 3)) po_none))))
        pss_nil)
      (pss_cons (ps_if (pt_cmpR op_eq (pv 4) pe_int (nomark _))
        (pss_one (ps_ret (pe_revT (pv 1))))
        pss_nil)
      (pss_cons (ps_if (pt_cmpR op_eq (pv 4) pe_int (nomark _))
        (pss_one (ps_ret (pe_callTy (T := "list") call_list_of (by rfl) T.m_list (by decide +kernel) (pa_cons (pv 1) pa_nil))))
        pss_nil)
      (pss_one (ps_ret (pe_op op_catS (pe_op op_catS (pe_slice sl_tupS (pv 1) po_none (po_some (pv 3))) (pe_tup (pa_cons (pe_call G_bent (hr.mono (by omega)) (by rfl) T.g_bent T.F_bent.kp T.b_bent .nil pass0 (pa_cons (pv 0) (pa_cons (pe_ix ix_tup (pv 1) (pv 3) (fun _ _ => rfl)) (pa_cons (pe_op op_sub (pv 2) pe_int) pa_nil)))) pa_nil))) (pe_slice sl_tupS (pv 1) (po_some (pe_op op_add (pv 3) pe_int)) po_none)))))))))), ?_⟩
      have shp : SeqAt.shaped d = true := nice_shaped hni (by omega)
      -- nothing to go into
      refine ⟨fun b J => (b = false → ∃ ds, d = .tuple ds ∧ ds ≠ [] ∧ 0 < m) ∧ ∃ n1, n1 ≤ n + 1 ∧ Deck2 K J p L n1 ∧ Keep p H J, ?_, ?_⟩
      · refine ⟨_, rfl, v, d, rfl, dpSame off2_in d v hd, _, rfl, ?_⟩
        refine ite2 (fun _ => ⟨(fun z => nomatch z), n, by omega, D, Keep.refl p H⟩) (fun ht => ?_)
        obtain ⟨ds, rfl⟩ := isA_tup (d := d) (by simpa using ht)
        refine ⟨_, rfl, by show 0 ≤ sizeLine; decide, fun q hq => ?_⟩
        have kq : Keep p H (upd H q (.tup [])) := Keep.new hq
        have Dq := D.put (o := .tup []) hq
        refine ⟨.tuple ds, .tuple [], dpSame off2_in _ v (kq.dt2 hd), .tup (SqT.of upd_same) .nil, shp, by decide, _, rfl, ?_⟩
        refine ite2 (fun _ => ⟨(fun z => nomatch z), n, by omega, Dq, kq⟩) (fun hne => ?_)
        have hds : ds ≠ [] := fun z => hne (by rw [z]; simp [PyData.eqv, PyData.eqvAll])
        refine ⟨_, rfl, rfl, _, rfl, ?_⟩
        refine ite2 (fun _ => ⟨(fun z => nomatch z), n, by omega, Dq, kq⟩) (fun hm => ?_)
        have mp : 0 < m := by
          have : ¬ m = 0 := fun z => hm (decide_eq_true (by rw [z]))
          omega
        refine ⟨_, rfl, p, 7, n, rfl, by decide, by decide, Dq.dk, by omega, fun r J _ _ DJ KJ => ⟨rfl, _, rfl, fun _ => ⟨ds, rfl, hds, mp⟩, n + 1, Nat.le_refl _, Dq.to KJ DJ, kq.trans KJ⟩⟩
      · rintro b H1 ⟨hb, n1, hn1, D1, K1⟩
        have hd1 := K1.dt2 hd
        cases b with
        | true =>
          refine iteT ?_
          refine ⟨fun b J => (b = true → ∃ i, d = .int i) ∧ ∃ n2, n2 ≤ n1 + 1 ∧ Deck2 K J p L n2 ∧ Keep p H J, ?_, ?_⟩
          · refine ⟨_, rfl, v, d, rfl, dpSame off2_in d v hd1, _, rfl, ?_⟩
            refine ite2 (fun hi => ?_) (fun _ => ⟨(fun z => nomatch z), n1, by omega, D1, K1⟩)
            refine ⟨_, rfl, v, d, rfl, dpSame off2_in d v hd1, _, rfl, ?_⟩
            refine ite2 (fun hnb => ?_) (fun _ => ⟨(fun z => nomatch z), n1, by omega, D1, K1⟩)
            refine ⟨_, rfl, p, 2, n1, rfl, by decide, by decide, D1.dk, by omega, fun r J _ _ DJ KJ => ⟨rfl, _, rfl, fun _ => isA_int hi (by simpa using hnb), n1 + 1, Nat.le_refl _, D1.to KJ DJ, K1.trans KJ⟩⟩
          · rintro b H2 ⟨hb2, n2, hn2, D2, K2⟩
            cases b with
            | true =>
              obtain ⟨i, rfl⟩ := hb2 rfl
              have hv : v = .int i := by cases hd; rfl
              subst hv
              have hi : i.natAbs < 2 ^ e := by simpa [nice] using hni
              have p2 : 2 ≤ 2 ^ e := Nat.le_trans (by decide : 2 ≤ 2 ^ 1) (Nat.pow_le_pow_right (by decide) (by omega))
              have pe : 2 ^ (e + 1) = 2 ^ e * 2 := Nat.pow_succ 2 e
              refine iteT ⟨_, rfl, _, rfl, 1, rfl, _, rfl, _, _, rfl, rfl, by show 4 ≤ sizeLine; decide, fun l hl => ?_⟩
              refine ⟨p, l, _, n2, rfl, SqL.of upd_same, D2.ne_new hl, by show 0 < 4; decide, by show 4 < 100000; decide, (D2.put hl).dk, by omega, fun j x J hx DJ KJ => ?_⟩
              obtain ⟨y, rfl, hy⟩ : ∃ y : Int, x = .int y ∧ (y.natAbs ≤ 2 ∨ y.natAbs ≤ i.natAbs) := by
                have m := List.mem_of_getElem? hx
                simp only [List.mem_cons, List.not_mem_nil, or_false] at m
                rcases m with m | m | m | m
                · exact ⟨_, m, .inl (by decide)⟩
                · exact ⟨_, m, .inl (by decide)⟩
                · exact ⟨_, m, .inl (by decide)⟩
                · exact ⟨_, m, .inr (by omega)⟩
              refine ⟨_, _, rfl, rfl, k _ (.int (i + y)) J (n2 + 1) (.int _) ⟨?_, by simp only [wt]; omega, by simp only [PyData.depth]; omega⟩ (by omega) ((D2.put hl).to KJ DJ) ((K2.trans (Keep.new hl)).trans KJ)⟩
              simp only [nice, decide_eq_true_eq]
              rw [pe]
              omega
            | false =>
              refine iteF ⟨_, rfl, p, L, n2, rfl, D2, by omega, fun v' d' J hd' td DJ KJ => ?_⟩
              exact k v' d' J (n2 + 1) hd' ⟨nice_more (by omega) d' td.ni, by have := td.we; omega, by have := td.de; omega⟩ (by omega) DJ (K2.trans KJ)
        | false =>
          obtain ⟨ds, rfl, hds, mp⟩ := hb rfl
          obtain ⟨a, xs, rfl, hx, hal⟩ := hd1.get
          have hlen : xs.length = ds.length := dpAll_len hal
          have hwA : wtAll ds < 100000 := by simp only [wt] at hw; omega
          have hlw := wtAll_len ds
          have l0 : 0 < ds.length := List.length_pos_iff.mpr hds
          have hnA : niceAll e ds = true := by simpa only [nice] using hni
          have hnA1 : niceAll (e + 1) ds = true := nice_moreAll (by omega) ds hnA
          have hdA : PyData.depthAll ds + 1 ≤ 40 := by simpa only [PyData.depth] using hdep
          have szl : 2 * ds.length + 10 ≤ sizeLine := Nat.le_trans (by omega : 2 * ds.length + 10 ≤ 200010) (by decide)
          refine iteF ⟨_, rfl, _, rfl, a, xs, rfl, .inr hx, p, _, n1, rfl, by omega, by omega, D1.dk, by omega, fun r J r0 r1 DJ KJ => ?_⟩
          obtain ⟨j, rfl⟩ : ∃ j : Nat, r = (j : Int) := ⟨r.toNat, (Int.toNat_of_nonneg r0).symm⟩
          have hj : j < ds.length := by omega
          refine ⟨_, rfl, p, 10, n1 + 1, rfl, by decide, by decide, DJ, by omega, fun z H2 z0 z1 D2 KJ2 => ?_⟩
          have K12 : Keep p H1 H2 := KJ.trans KJ2
          have D2 := D1.to K12 D2
          have K2 : Keep p H H2 := K1.trans K12
          obtain ⟨_, _, _, _, hp1, _⟩ := id D1.dk
          have hx2 : SqT K H2 a xs := sameT off_in (sameT K12.s (tup_off hp1 hx))
          have hal2 := K12.all2 hal
          obtain ⟨dj, hdj⟩ : ∃ dj, ds[j]? = some dj := ⟨_, List.getElem?_eq_getElem hj⟩
          have sp := split_at hdj
          have wsp : wtAll ds = wtAll (ds.take j) + (wt dj + wtAll (ds.drop (j + 1))) := by
            have z := congrArg wtAll sp
            rw [wtAll_append] at z
            simpa only [wtAll] using z
          have nsp : niceAll (e + 1) (ds.take j) = true ∧ niceAll (e + 1) (ds.drop (j + 1)) = true := by
            have z := hnA1
            rw [sp, niceAll_append, Bool.and_eq_true] at z
            simp only [niceAll, Bool.and_eq_true] at z
            exact ⟨z.1, z.2.2⟩
          have ndj : nice e dj = true := niceAll_iff.mp hnA dj (List.mem_of_getElem? hdj)
          have dsp : PyData.depthAll ds = max (PyData.depthAll (ds.take j)) (max dj.depth (PyData.depthAll (ds.drop (j + 1)))) := by
            have z := congrArg PyData.depthAll sp
            rw [depthAll_append] at z
            simpa only [PyData.depthAll] using z
          have ct : cutV xs none (some (j : Int)) = xs.take j := cut_to xs j (by omega)
          have cf : cutV xs (some ((j : Int) + 1)) none = xs.drop (j + 1) := cut_from xs (j + 1) (by omega)
          have cf0 : cutV xs (some (j : Int)) none = xs.drop j := cut_from xs j (by omega)
          have tl : (xs.take j).length ≤ ds.length := by rw [List.length_take]; omega
          have dl : ∀ i, (xs.drop i).length ≤ ds.length := fun i => by rw [List.length_drop]; omega
          refine ⟨_, _, rfl, ?_⟩
          -- one left out
          refine ⟨_, rfl, rfl, _, rfl, ite2 (fun _ => ?_) (fun _ => ?_)⟩
          · refine ⟨_, rfl, _, rfl, _, rfl, a, xs, rfl, hx2, fun t1 J1 c1 s1 => ?_⟩
            refine ⟨_, rfl, _, rfl, _, _, rfl, rfl, _, rfl, a, xs, rfl, sameT s1 hx2, fun t2 J2 c2 s2 => ?_⟩
            rw [ct] at c1
            rw [cf] at c2
            have dl' := dl (j + 1)
            refine ⟨t1, t2, _, _, rfl, rfl, sameT s2 c1, c2, by omega, fun t J3 c3 s3 => ?_⟩
            have S3 := (s1.trans s2).trans s3
            have KS : Keep p H2 J3 := Keep.of_same S3
            refine k _ _ J3 (n1 + 2) (dt_of2 (D2.same S3) c3 (dpAll_append (dpAll_take j (KS.all2 hal2)) (dpAll_drop (j + 1) (KS.all2 hal2)))) (Bent.tup ?_ ?_ ?_) (by omega) (D2.same S3) (K2.trans KS)
            · rw [niceAll_append, nsp.1, nsp.2]
              rfl
            · rw [wtAll_append]
              omega
            · rw [depthAll_append]
              omega
          -- one told twice
          refine ⟨_, rfl, rfl, _, rfl, ite2 (fun _ => ?_) (fun _ => ?_)⟩
          · obtain ⟨xj, hxj⟩ : ∃ xj, xs[j]? = some xj := ⟨_, List.getElem?_eq_getElem (by omega)⟩
            refine ⟨_, rfl, _, rfl, _, rfl, a, xs, rfl, hx2, fun t1 J1 c1 s1 => ?_⟩
            refine ⟨_, rfl, _, rfl, a, xs, (j : Int), xj, rfl, rfl, sameT s1 hx2, atI_nat hxj, by show 1 ≤ sizeLine; decide, fun t2 h2 => ?_⟩
            have s2 : Same J1 (upd J1 t2 (.tup [xj])) := same_new h2
            rw [ct] at c1
            refine ⟨t1, t2, _, _, rfl, rfl, sameT s2 c1, SqT.of upd_same, by rw [List.length_singleton]; omega, fun t3 J3 c3 s3 => ?_⟩
            refine ⟨_, rfl, _, rfl, _, rfl, a, xs, rfl, sameT ((s1.trans s2).trans s3) hx2, fun t4 J4 c4 s4 => ?_⟩
            rw [cf0] at c4
            have dl' := dl j
            refine ⟨t3, t4, _, _, rfl, rfl, sameT s4 c3, c4, by rw [List.length_append, List.length_singleton]; omega, fun t J5 c5 s5 => ?_⟩
            have S5 := ((((s1.trans s2).trans s3).trans s4).trans s5)
            have KS : Keep p H2 J5 := Keep.of_same S5
            have al5 := KS.all2 hal2
            obtain ⟨dj', hdj', xdj⟩ := dpAll_get al5 hxj
            have ej : dj' = dj := Option.some.inj (hdj'.symm.trans hdj)
            rw [ej] at xdj
            have dr : ds.drop j = dj :: ds.drop (j + 1) := by
              rw [← List.getElem_cons_drop hj]
              exact congrArg (· :: _) (List.getElem?_eq_some_iff.mp hdj).2
            have dd := al5
            refine k _ _ J5 (n1 + 2) (dt_of2 (D2.same S5) c5 (dpAll_append (dpAll_append (dpAll_take j al5) (.cons xdj .nil)) (dpAll_drop j al5))) (Bent.tup ?_ ?_ ?_) (by omega) (D2.same S5) (K2.trans KS)
            · rw [niceAll_append, niceAll_append, dr, nsp.1]
              simp only [niceAll, nsp.2, nice_more (by omega : e ≤ e + 1) dj ndj, Bool.and_self]
            · rw [wtAll_append, wtAll_append, dr]
              simp only [wtAll]
              omega
            · rw [depthAll_append, depthAll_append, dr]
              simp only [PyData.depthAll]
              omega
          -- turned about
          refine ⟨_, rfl, rfl, _, rfl, ite2 (fun _ => ?_) (fun _ => ?_)⟩
          · refine ⟨_, rfl, a, xs, rfl, hx2, fun t ht => ?_⟩
            have KS : Keep p H2 (upd H2 t (.tup xs.reverse)) := Keep.new ht
            refine k _ _ _ (n1 + 2) (dt_of2 (D2.put ht) (SqT.of upd_same) (dpAll_reverse (KS.all2 hal2))) (Bent.tup (niceAll_reverse hnA1) ?_ ?_) (by omega) (D2.put ht) (K2.trans KS)
            · rw [wtAll_reverse]
              omega
            · rw [depthAll_reverse]
              omega
          -- a list
          refine ⟨_, rfl, rfl, _, rfl, ite2 (fun _ => ?_) (fun _ => ?_)⟩
          · refine ⟨_, rfl, a, xs, rfl, .inr hx2, fun t ht => ?_⟩
            refine k _ (.list ds) _ (n1 + 2) (dt_lst2 D2 ht hal2) ⟨by simpa only [nice] using hnA1, by simp only [wt]; omega, by simp only [PyData.depth]; omega⟩ (by omega) (D2.put ht) (K2.trans (Keep.new ht))
          -- one bent in its turn
          · obtain ⟨xj, hxj⟩ : ∃ xj, xs[j]? = some xj := ⟨_, List.getElem?_eq_getElem (by omega)⟩
            refine ⟨_, rfl, _, rfl, _, rfl, a, xs, rfl, hx2, fun t1 J1 c1 s1 => ?_⟩
            have D3 := D2.same s1
            have K3 : Keep p H2 J1 := Keep.of_same s1
            obtain ⟨dj', hdj', xdj⟩ := dpAll_get (K3.all2 hal2) hxj
            have ej : dj' = dj := Option.some.inj (hdj'.symm.trans hdj)
            rw [ej] at xdj
            rw [ct] at c1
            refine ⟨_, rfl, _, rfl, _, rfl, a, xs, (j : Int), xj, rfl, rfl, sameT s1 hx2, atI_nat hxj, _, rfl, _, _, rfl, rfl, ?_⟩
            refine ⟨p, L, xj, dj, m - 1, n1 + 2, e, rfl, xdj, ndj, e0, e1, by omega, by omega, by omega, by omega, D3, by omega, fun v' d' J2 n' hd' bd hn' D4 K4 => ?_⟩
            refine ⟨by show 1 ≤ sizeLine; decide, fun t2 h2 => ?_⟩
            obtain ⟨_, _, _, _, hp3, _⟩ := id D3.dk
            have c1' : SqT K J2 t1 (xs.take j) := sameT off_in (sameT K4.s (tup_off hp3 c1))
            have hx4 : SqT K J2 a xs := sameT off_in (sameT K4.s (tup_off hp3 (sameT s1 hx2)))
            have s2 : Same J2 (upd J2 t2 (.tup [v'])) := same_new h2
            refine ⟨t1, t2, _, _, rfl, rfl, sameT s2 c1', SqT.of upd_same, by rw [List.length_singleton]; omega, fun t3 J3 c3 s3 => ?_⟩
            refine ⟨_, rfl, _, rfl, _, _, rfl, rfl, _, rfl, a, xs, rfl, sameT (s2.trans s3) hx4, fun t4 J4 c4 s4 => ?_⟩
            rw [cf] at c4
            have dl' := dl (j + 1)
            refine ⟨t3, t4, _, _, rfl, rfl, sameT s4 c3, c4, by rw [List.length_append, List.length_singleton]; omega, fun t J5 c5 s5 => ?_⟩
            have S5 := (((s2.trans s3).trans s4).trans s5)
            have KS : Keep p J2 J5 := Keep.of_same S5
            have al5 := KS.all2 (K4.all2 (K3.all2 hal2))
            refine k _ _ J5 n' (dt_of2 (D4.same S5) c5 (dpAll_append (dpAll_append (dpAll_take j al5) (.cons (KS.dt2 hd') .nil)) (dpAll_drop (j + 1) al5))) (Bent.tup ?_ ?_ ?_) (by omega) (D4.same S5) (((K2.trans K3).trans K4).trans KS)
            · rw [niceAll_append, niceAll_append, nsp.1, nsp.2]
              simp only [niceAll, bd.ni, Bool.and_self]
            · have := bd.we
              rw [wtAll_append, wtAll_append]
              simp only [wtAll]
              omega
            · have := bd.de
              rw [depthAll_append, depthAll_append]
              simp only [PyData.depthAll]
              omega
end

theorem dp_rep {K : PySem.W.Frag} {H : Hp} {v : V} {d : PyData} (h : Dp K H v d) : ∀ m : Nat, DpAll K H (List.replicate m v) (List.replicate m d)
  | 0 => .nil
  | m + 1 => .cons h (dp_rep h m)
theorem InWay.app {a b : List (Int × List Int)} (h : InWay a) (k : InWay b) : InWay (a ++ b) := fun x hx => (List.mem_append.mp hx).elim (h x) (k x)
theorem InWay.take {a : List (Int × List Int)} (h : InWay a) (j : Nat) : InWay (a.take j) := fun x hx => h x (List.mem_of_mem_take hx)
theorem wrow_low {e : Nat} (he : 10 ≤ e) {q : Int × List Int} (h : WRow q) : nice e (wrowD q) = true ∧ wt (wrowD q) ≤ 7 ∧ (wrowD q).depth ≤ 2 := by
  obtain ⟨w0, w1, w2, w3, w4⟩ := h
  have a : niceAll e (q.2.map PyData.int) = true := niceAll_iff.mpr fun d hd => by
    obtain ⟨x, hx, rfl⟩ := List.mem_map.mp hd
    have := w4 x hx
    exact nice_int he (by omega)
  have b : wtAll (q.2.map PyData.int) = q.2.length := by
    clear a w0 w1 w2 w3 w4
    induction q.2 with
    | nil => rfl
    | cons x r ih => simp only [List.map_cons, wtAll, wt, ih, List.length_cons]; omega
  refine ⟨?_, ?_, ?_⟩
  · simp only [wrowD, nice, niceAll, Bool.and_eq_true]
    exact ⟨by simpa only [nice] using nice_int (e := e) he (i := q.1) (by omega), a, trivial⟩
  · simp only [wrowD, wt, wtAll, b]
    omega
  · simp only [wrowD, PyData.depth, PyData.depthAll, ints_deep]
    decide
theorem way_low {e : Nat} (he : 10 ≤ e) {rs : List (Int × List Int)} (h : InWay rs) : niceAll e (rs.map wrowD) = true ∧ wtAll (rs.map wrowD) ≤ 7 * rs.length ∧ PyData.depthAll (rs.map wrowD) ≤ 2 := by
  refine ⟨niceAll_iff.mpr fun d hd => ?_, ?_, depthAll_le.mpr fun d hd => ?_⟩
  · obtain ⟨q, hq, rfl⟩ := List.mem_map.mp hd
    exact (wrow_low he (h q hq)).1
  · induction rs with
    | nil => exact Nat.zero_le _
    | cons q r ih =>
      have a := (wrow_low (e := e) he (h q List.mem_cons_self)).2.1
      have b := ih fun x hx => h x (List.mem_cons_of_mem _ hx)
      simp only [List.map_cons, wtAll, List.length_cons]
      omega
  · obtain ⟨q, hq, rfl⟩ := List.mem_map.mp hd
    exact (wrow_low he (h q hq)).2.2
theorem way_tiny {rs : List (Int × List Int)} (h : InWay rs) (l : rs.length ≤ 300) : Tiny 143 4000 20 (wayT rs) ∧ Tiny 143 4000 20 (.list (rs.map wrowD)) := by
  obtain ⟨a, b, c⟩ := way_low (e := 143) (by decide) h
  exact ⟨⟨by simpa only [wayT, nice] using a, by simp only [wayT, wt]; omega, by simp only [wayT, PyData.depth]; omega⟩, ⟨by simpa only [nice] using a, by simp only [wt]; omega, by simp only [PyData.depth]; omega⟩⟩
theorem way_bend {rs : List (Int × List Int)} (h : InWay rs) (l : rs.length ≤ 6) : nice 140 (wayT rs) = true ∧ wt (wayT rs) ≤ 43 ∧ (wayT rs).depth ≤ 3 := by
  obtain ⟨a, b, c⟩ := way_low (e := 140) (by decide) h
  exact ⟨by simpa only [wayT, nice] using a, by simp only [wayT, wt]; omega, by simp only [wayT, PyData.depth]; omega⟩
theorem way_noList (rs : List (Int × List Int)) : noList (wayT rs) = true := by
  have h : ∀ zs : List Int, noLists (zs.map PyData.int) = true := fun zs => by
    induction zs with
    | nil => rfl
    | cons x r ih => simp only [List.map_cons, noLists, noList, ih, Bool.and_self]
  have k : noLists (rs.map wrowD) = true := by
    induction rs with
    | nil => rfl
    | cons q r ih => simp only [List.map_cons, noLists, noList, wrowD, h, ih, Bool.and_self]
  simp only [wayT, noList, k]
section
variable {P : Program} {w : World} {K : PySem.W.Frag} {mg : Str → Option Value}
theorem law_does (T : Txt K mg) {f : Addr} : LawDoes P w K mg s_law ["_law_script", "_law_deck_here", "_law_lap", "_law_house", "_law_value", "_law_some", "_law_long", "_law_k", "_law_thing", "_law_time", "_law_held", "_law_due"] f := by
  intro base cdv s H a ns h63 hS
  have hr := room_law (envOfC "law" (defScope s_law) s.heap.objs.size f cdv)
  have G_deck : FnOk P w K mg base CX0 1 T.a_deck T.d_deck ["_law_script"] (sp_deck K) := ok_deck T
  have G_draw : FnOk P w K mg base CX0 1 T.a_draw T.d_draw ["_law_deck_here", "_law_many"] (sp_draw K) := ok_draw T
  have G_one : FnOk P w K mg base CX0 2 T.a_one T.d_one ["_law_deck_here", "_law_items"] (sp_one K) := ok_one T
  have G_small_house : FnOk P w K mg base CX0 3 T.a_small_house T.d_small_house ["_law_deck_here"] (sp_smallh K) := ok_smallh T
  have G_drawn_way : FnOk P w K mg base CX0 3 T.a_drawn_way T.d_drawn_way ["_law_deck_here", "_law_house", "_law_many"] (sp_dway K) := ok_dway T
  have G_otherwise : FnOk P w K mg base CX0 3 T.a_otherwise T.d_otherwise ["_law_deck_here", "_law_house", "_law_value"] (sp_oway K) := ok_oway T
  have G_odd : FnOk P w K mg base CX0 3 T.a_odd T.d_odd ["_law_deck_here"] (sp_odd K) := ok_odd T
  have G_bent : FnOk P w K mg base CX0 8 T.a_bent T.d_bent ["_law_deck_here", "_law_thing", "_law_deep"] (sp_bent2 K 5) := ok_bent2 T 5
  have G_is_way : FnOk P w K mg base CX0 4 T.a_is_way T.d_is_way ["house", "value"] (sp_isway K) := ok_isway T
  have G_l_is_way : FnOk P w K mg base CX0 3 T.a_l_is_way T.d_l_is_way ["_law_house", "_law_value"] (sp_isway K) := ok_lway T
  refine ⟨_, (pss_cons (ps_set (i := 1) sc_law.nd rfl (Or.inl rfl) (pe_call G_deck (hr.mono (by omega)) (by rfl) T.g_deck T.F_deck.kp T.b_deck .nil pass0 (pa_cons (pv 0) pa_nil)))
      (pss_cons (ps_for PassesOwn.never rfl (pi_range1 (by rfl) T.m_range (pa_cons pe_int pa_nil)) (pg_name (i := 2) sc_law.nd rfl (Or.inl rfl))
        (pss_cons (ps_set (i := 3) sc_law.nd rfl (Or.inl rfl) (pe_call G_small_house (hr.mono (by omega)) (by rfl) T.g_small_house T.F_small_house.kp T.b_small_house .nil pass0 (pa_cons (pv 1) pa_nil)))
      (pss_cons (ps_set (i := 4) sc_law.nd rfl (Or.inl rfl) (pe_call G_drawn_way (hr.mono (by omega)) (by rfl) T.g_drawn_way T.F_drawn_way.kp T.b_drawn_way .nil pass0 (pa_cons (pv 1) (pa_cons (pv 3) (pa_cons (pe_op op_add pe_int (pe_call G_draw (hr.mono (by omega)) (by rfl) T.g_draw T.F_draw.kp T.b_draw .nil pass0 (pa_cons (pv 1) (pa_cons pe_int pa_nil)))) pa_nil)))))
      (pss_cons (ps_set (i := 5) sc_law.nd rfl (Or.inl rfl) (pe_lst (pa_cons (pv 4) (pa_cons (pe_call G_otherwise (hr.mono (by omega)) (by rfl) T.g_otherwise T.F_otherwise.kp T.b_otherwise .nil pass0 (pa_cons (pv 1) (pa_cons (pv 3) (pa_cons (pv 4) pa_nil)))) (pa_cons (pe_call G_odd (hr.mono (by omega)) (by rfl) T.g_odd T.F_odd.kp T.b_odd .nil pass0 (pa_cons (pv 1) pa_nil)) (pa_cons (pe_tup pa_nil) (pa_cons (pe_callTy (T := "list") call_list_of (by rfl) T.m_list (by decide +kernel) (pa_cons (pv 4) pa_nil)) pa_nil)))))))
      (pss_cons (ps_set (i := 6) sc_law.nd rfl (Or.inl rfl) (pe_op op_catS (pv 4) (pe_op op_repOne (pe_tup (pa_cons (pe_tup (pa_cons (pe_un un_neg pe_int) (pa_cons (pe_tup (pa_cons (pe_un un_neg pe_int) pa_nil)) pa_nil))) pa_nil)) (pe_op op_add (pe_op op_sub pe_int (pe_callB (id := "len") call_len_seq (by rfl) T.m_len (by decide +kernel) (pa_cons (pv 4) pa_nil))) (pe_call G_draw (hr.mono (by omega)) (by rfl) T.g_draw T.F_draw.kp T.b_draw .nil pass0 (pa_cons (pv 1) (pa_cons pe_int pa_nil)))))))
      (pss_cons (ps_set (i := 5) sc_law.nd rfl (Or.inl rfl) (pe_op op_cat (pv 5) (pe_lst (pa_cons (pv 6) (pa_cons (pe_call G_otherwise (hr.mono (by omega)) (by rfl) T.g_otherwise T.F_otherwise.kp T.b_otherwise .nil pass0 (pa_cons (pv 1) (pa_cons (pv 3) (pa_cons (pv 6) pa_nil)))) (pa_cons (pe_call G_otherwise (hr.mono (by omega)) (by rfl) T.g_otherwise T.F_otherwise.kp T.b_otherwise .nil pass0 (pa_cons (pv 1) (pa_cons (pv 3) (pa_cons (pe_slice sl_tupS (pv 6) po_none (po_some pe_int)) pa_nil)))) pa_nil))))))
      (pss_cons (ps_for PassesOwn.never rfl (pi_range1 (by rfl) T.m_range (pa_cons pe_int pa_nil)) (pg_name (i := 7) sc_law.nd rfl (Or.inl rfl))
        (pss_cons (ps_set (i := 8) sc_law.nd rfl (Or.inl rfl) (pe_call G_one (hr.mono (by omega)) (by rfl) T.g_one T.F_one.kp T.b_one .nil pass0 (pa_cons (pv 1) (pa_cons (pe_lst (pa_cons (pv 4) (pa_cons (pe_call G_otherwise (hr.mono (by omega)) (by rfl) T.g_otherwise T.F_otherwise.kp T.b_otherwise .nil pass0 (pa_cons (pv 1) (pa_cons (pv 3) (pa_cons (pv 4) pa_nil)))) pa_nil))) pa_nil))))
      (pss_cons (ps_for PassesOwn.never rfl (pi_range1 (by rfl) T.m_range (pa_cons (pe_op op_add pe_int (pe_call G_draw (hr.mono (by omega)) (by rfl) T.g_draw T.F_draw.kp T.b_draw .nil pass0 (pa_cons (pv 1) (pa_cons pe_int pa_nil)))) pa_nil)) (pg_name (i := 9) sc_law.nd rfl (Or.inl rfl))
        (pss_one (ps_set (i := 8) sc_law.nd rfl (Or.inl rfl) (pe_call G_bent (hr.mono (by omega)) (by rfl) T.g_bent T.F_bent.kp T.b_bent .nil pass0 (pa_cons (pv 1) (pa_cons (pv 8) (pa_cons (pe_op op_add pe_int (pe_call G_draw (hr.mono (by omega)) (by rfl) T.g_draw T.F_draw.kp T.b_draw .nil pass0 (pa_cons (pv 1) (pa_cons pe_int pa_nil)))) pa_nil)))))))
      (pss_one (ps_expr (pe_bm PySem.F.plainAttrs_list PySem.F.slot_list_append PySem.F.type_list_append mt_append (pv 5) (pa_cons (pv 8) pa_nil)))))))
      (pss_one (ps_for PassesOwn.never rfl (pi_list (pv 5)) (pg_name (i := 8) sc_law.nd rfl (Or.inl rfl))
        (pss_cons (ps_par (i := 10) (j := 11) (by rfl) sc_law.nd rfl rfl (by decide) rfl rfl (pa_cons (pe_callB (id := "repr") (call_show rfl (by show 7 + 64 < cLine; decide)) (by rfl) T.m_repr (by decide +kernel) (pa_cons (pe_lst (pa_cons (pv 3) (pa_cons (pv 8) pa_nil))) pa_nil)) (pa_cons (pe_call G_l_is_way (hr.mono (by omega)) (by rfl) T.g_l_is_way T.F_l_is_way.kp T.b_l_is_way .nil pass0 (pa_cons (pv 3) (pa_cons (pv 8) pa_nil))) pa_nil)) (by rfl))
      (pss_cons (ps_if (pt_cmpR op_ne (pe_callB (id := "repr") (call_show rfl (by show 7 + 64 < cLine; decide)) (by rfl) T.m_repr (by decide +kernel) (pa_cons (pe_lst (pa_cons (pe_call G_is_way (hr.mono (by omega)) (by rfl) T.g_is_way T.F_is_way.kp T.b_is_way .nil pass0 (pa_cons (pv 3) (pa_cons (pv 8) pa_nil))) (pa_cons (pe_call G_is_way (hr.mono (by omega)) (by rfl) T.g_is_way T.F_is_way.kp T.b_is_way .nil pass0 (pa_cons (pv 3) (pa_cons (pv 8) pa_nil))) pa_nil))) pa_nil)) (pe_callB (id := "repr") (call_show rfl (by show 7 + 64 < cLine; decide)) (by rfl) T.m_repr (by decide +kernel) (pa_cons (pe_lst (pa_cons (pv 11) (pa_cons (pv 11) pa_nil))) pa_nil)) (nomark _))
        (pss_one (ps_ret pe_bl))
        pss_nil)
      (pss_one (ps_if (pt_cmpR op_ne (pe_callB (id := "repr") (call_show rfl (by show 7 + 64 < cLine; decide)) (by rfl) T.m_repr (by decide +kernel) (pa_cons (pe_lst (pa_cons (pv 3) (pa_cons (pv 8) pa_nil))) pa_nil)) (pv 10) (nomark _))
        (pss_one (ps_ret pe_bl))
        pss_nil)))))))))))))
      (pss_one (ps_ret pe_bl)))), ?_⟩
  refine ⟨_, rfl, a, ns, rfl, hS, h63, fun p H1 D1 S1 hp => ?_⟩
  have big : ∀ {q : Nat}, q ≤ 9000 → q ≤ sizeLine := fun h => Nat.le_trans h (by decide)
  refine ⟨8, rfl, by show -(2 ^ 62) ≤ (8 : Int); decide, by show (8 : Int) < 2 ^ 62; decide, for_range (lo := 0) (n := 8) (fun i σ H' => ∃ y2 y3 y4 y5 y6 y7 y8 y9 y10 y11, σ = [some (.ref a), some (.ref p), y2, y3, y4, y5, y6, y7, y8, y9, y10, y11] ∧ ∃ n, n ≤ 400 * i ∧ Deck K H' p n) ⟨none, none, none, none, none, none, none, none, none, none, rfl, 0, by omega, D1⟩ ?_ ?_⟩
  · rintro i σ H2 hi ⟨y2, y3, y4, y5, y6, y7, y8, y9, y10, y11, rfl, n, hn, D2⟩
    refine ⟨_, rfl, p, n, rfl, D2, by omega, fun z r g th H3 z2 z4 r1 r6 g0 g2 ht D3 K3 => ?_⟩
    have th0 : th ≠ p := D3.ne_tup ht
    refine ⟨_, rfl, _, rfl, _, rfl, p, 6, n + 3, rfl, by decide, by decide, D3, by omega, fun m H4 m0 m6 D4 K4 => ⟨_, _, rfl, rfl, p, th, z, r, g, 1 + m, n + 4, rfl, K4.at th0 ht, z2, z4, by omega, by omega, D4, by omega, fun rs t fs H5 n5 lrs inW st5 al5 hn5 D5 K5 => ?_⟩⟩
    have ht5 := K5.at th0 (K4.at th0 ht)
    have hn5' : n5 ≤ n + 60 := by omega
    have rs0 : 0 < rs.length := by omega
    have rs6 : rs.length ≤ 6 := by omega
    have lfs : fs.length = rs.length := by rw [dpAll_len al5, List.length_map]
    have dV := dt_of D5 st5 al5
    have stOf : ∀ J, Keep p H5 J → SqT K J t fs := fun J k => D5.sqt k st5
    have htOf : ∀ J, Keep p H5 J → J th = some (.tup [.int z, .int r, .int g]) := fun J k => k.at th0 ht5
    -- the first five
    have A0 : Acc K p n5 H5 H5 [.ref t] [wayT rs] := ⟨D5, .cons dV .nil, Keep.refl p H5⟩
    refine ⟨_, rfl, _, rfl, _, rfl, _, rfl, p, th, .ref t, z, r, g, n5, rs, rfl, ht5, z2, z4, dV, inW, rs0, by omega, D5, by omega, fun rs2 v2 H6 n6 d2 in2 l2 hn6 D6 K6 => ?_⟩
    have A1 := (A0.keep K6 D6).add d2
    refine ⟨_, rfl, p, n6, rfl, D6, by omega, fun vo do' H7 hdo tdo D7 K7 => ?_⟩
    have A2 := (A1.keep K7 D7).add hdo
    refine ⟨by show 0 ≤ sizeLine; decide, fun q3 g3 => ?_⟩
    have A3 := (A2.new g3 (o := .tup [])).add (dt_tup (A2.dk.ne_new g3) g3 .nil)
    refine ⟨_, rfl, t, fs, rfl, .inr (stOf _ A3.kp), fun q4 g4 => ?_⟩
    have A4 := (A3.new g4 (o := .lst fs)).add (dt_lst (A3.dk.ne_new g4) g4 (A3.kp.all al5))
    refine ⟨by show 5 ≤ sizeLine; decide, fun L1 gL1 => ?_⟩
    have L10 := A4.dk.ne_new gL1
    have A5 := A4.new gL1 (o := .lst [.ref t, v2, vo, .ref q3, .ref q4])
    have hL1 : upd (upd (upd H7 q3 (.tup [])) q4 (.lst fs)) L1 (.lst [.ref t, v2, vo, .ref q3, .ref q4]) L1 = some (.lst [.ref t, v2, vo, .ref q3, .ref q4]) := upd_same
    clear A0 A1 A2 A3 A4
    show gName 5 (V.ref L1) _ (upd (upd (upd H7 q3 (.tup [])) q4 (.lst fs)) L1 (.lst [.ref t, v2, vo, .ref q3, .ref q4])) _
    generalize upd (upd (upd H7 q3 (.tup [])) q4 (.lst fs)) L1 (.lst [.ref t, v2, vo, .ref q3, .ref q4]) = H8 at A5 hL1 ⊢
    -- the long one
    refine ⟨_, rfl, 1, rfl, 1, rfl, by show 1 ≤ sizeLine; decide, fun w1 e1 => ⟨by show 2 ≤ sizeLine; decide, fun w2 e2 => ⟨by show 1 ≤ sizeLine; decide, fun w3 e3 => ?_⟩⟩⟩
    have A6 := A5.new e1 (o := .tup [.int (-1)])
    have dw1 : Dt K p (upd H8 w1 (.tup [.int (-1)])) (.ref w1) (.tuple [.int (-1)]) := dt_tup (A5.dk.ne_new e1) e1 (.cons (.int _) .nil)
    have A7 := A6.new e2 (o := .tup [.int (-1), .ref w1])
    have dw2 : Dt K p (upd (upd H8 w1 (.tup [.int (-1)])) w2 (.tup [.int (-1), .ref w1])) (.ref w2) (wrowD (-1, [-1])) := dt_tup (A6.dk.ne_new e2) e2 (.cons (.int _) (.cons dw1 .nil))
    have A8 := A7.new e3 (o := .tup [.ref w2])
    have dw3 := (Keep.new (p := p) e3 (o := .tup [.ref w2])).dt dw2
    have hw3 : upd (upd (upd H8 w1 (.tup [.int (-1)])) w2 (.tup [.int (-1), .ref w1])) w3 (.tup [.ref w2]) w3 = some (.tup [.ref w2]) := upd_same
    have w30 := A7.dk.ne_new e3
    have hL8 := ((((Keep.new (p := p) e1 (o := .tup [.int (-1)])).trans (Keep.new e2 (o := .tup [.int (-1), .ref w1]))).trans (Keep.new e3 (o := .tup [.ref w2])))).at L10 hL1
    clear A5 A6 A7 dw1 dw2
    refine ⟨_, rfl, t, fs, rfl, .inr (stOf _ A8.kp), _, _, rfl, rfl, _, rfl, p, 2, n6 + 1, rfl, by decide, by decide, A8.dk, by omega, fun x H9 x0 x2 D9 K9 => ?_⟩
    have A9 := A8.keep K9 D9
    have dw9 := K9.dt dw3
    have hw9 := K9.at w30 hw3
    have hL9 := K9.at L10 hL8
    obtain ⟨k, ek, k1, k2⟩ : ∃ k : Nat, 200 - (fs.length : Int) + x = (k : Int) ∧ 190 ≤ k ∧ k ≤ 200 := ⟨(200 - (fs.length : Int) + x).toNat, by omega, by omega, by omega⟩
    refine ⟨_, _, rfl, rfl, w3, (k : Int), _, rfl, congrArg V.int ek, SqT.of hw9, by omega, by omega, fun w4 e4 => ?_⟩
    have A10 := A9.new e4 (o := .tup (List.replicate (k : Int).toNat (V.ref w2)))
    have dw10 := (Keep.new (p := p) e4 (o := .tup (List.replicate (k : Int).toNat (V.ref w2)))).dt dw9
    have hL10 := (Keep.new (p := p) e4 (o := .tup (List.replicate (k : Int).toNat (V.ref w2)))).at L10 hL9
    have h4 : SqT K (upd H9 w4 (.tup (List.replicate (k : Int).toNat (V.ref w2)))) w4 (List.replicate k (V.ref w2)) := SqT.of upd_same
    refine ⟨t, w4, _, _, rfl, rfl, stOf _ A10.kp, h4, big (by rw [List.length_replicate]; omega), fun tl H11 f11 s11 => ?_⟩
    have A11 := A10.same s11
    obtain ⟨rl, erl⟩ : ∃ rl : List (Int × List Int), rl = rs ++ List.replicate k (-1, [-1]) := ⟨_, rfl⟩
    have inL : InWay rl := by
      rw [erl]
      refine inW.app fun q hq => ?_
      rw [List.eq_of_mem_replicate hq]
      exact ⟨by decide, by decide, by simp, by decide, fun x hx => by rw [List.mem_singleton.mp hx]; decide⟩
    have lrl : rl.length ≤ 206 ∧ 191 ≤ rl.length ∧ (rl.length : Int) = 200 + x := by
      rw [erl, List.length_append, List.length_replicate]
      omega
    have alL : DpAll K (off p H11) (fs ++ List.replicate k (V.ref w2)) (rl.map wrowD) := by
      rw [erl, List.map_append, List.map_replicate]
      exact dpAll_append (A11.kp.all al5) (dp_rep ((Keep.of_same s11).dt dw10) k)
    have dL := dt_of A11.dk f11 alL
    have hL11 := s11 _ _ hL10
    clear A8 A9 A10 dw3 dw9 dw10 hw3 hw9 h4 hL8 hL9 hL10
    have A12 : Acc K p (n6 + 2) H5 H11 _ _ := A11.add dL
    have fL : SqT K H11 tl (fs ++ List.replicate k (V.ref w2)) := f11
    have lx201 : rl.length ≤ 201 := by omega
    -- three more
    refine ⟨_, rfl, _, rfl, _, rfl, _, rfl, _, rfl, p, th, .ref tl, z, r, g, n6 + 2, rl, rfl, htOf _ A11.kp, z2, z4, dL, inL, by omega, lx201, A11.dk, by omega, fun rs3 v3 H12 n12 d3 in3 l3 hn12 D12 K12 => ?_⟩
    have A13 := (A12.keep K12 D12).add d3
    have hL12 := K12.at L10 hL11
    refine ⟨_, rfl, _, rfl, _, rfl, 200, rfl, tl, _, rfl, A11.dk.sqt K12 fL, fun q5 H13 f13 s13 => ?_⟩
    have A14 := A13.same s13
    have d200 : Dt K p H13 (.ref q5) (wayT (rl.take 200)) := by
      refine dt_of A14.dk f13 ?_
      rw [List.map_take]
      have ct : cutV (fs ++ List.replicate k (V.ref w2)) none (some (200 : Int)) = (fs ++ List.replicate k (V.ref w2)).take 200 := cut_to _ 200 (by rw [List.length_append, List.length_replicate]; omega)
      rw [ct]
      exact dpAll_take 200 ((K12.trans (Keep.of_same s13)).all alL)
    refine ⟨p, th, .ref q5, z, r, g, n12, rl.take 200, rfl, htOf _ A14.kp, z2, z4, d200, inL.take 200, by rw [List.length_take]; omega, by rw [List.length_take]; omega, A14.dk, by omega, fun rs4 v4 H14 n14 d4 in4 l4 hn14 D14 K14 => ?_⟩
    have A15 := (A14.keep K14 D14).add d4
    have hL14 := K14.at L10 (s13 _ _ hL12)
    refine ⟨by show 3 ≤ sizeLine; decide, fun l2' gl2 => ?_⟩
    have A16 := A15.new gl2 (o := .lst [.ref tl, v3, v4])
    refine ⟨L1, l2', _, _, rfl, rfl, same_new gl2 _ _ hL14, upd_same, by show 8 ≤ sizeLine; decide, fun L2 gL2 => ?_⟩
    have L20 := A16.dk.ne_new gL2
    have K5A := A16.kp
    obtain ⟨HA, eHA⟩ : ∃ HA, HA = upd H14 l2' (.lst [.ref tl, v3, v4]) := ⟨_, rfl⟩
    rw [← eHA] at A16 gL2 K5A ⊢
    have al8 : DpAll K (off p HA) ([.ref t, v2, vo, .ref q3, .ref q4] ++ [.ref tl, v3, v4]) [wayT rs, wayT rs2, do', .tuple [], .list (rs.map wrowD), wayT rl, wayT rs3, wayT rs4] := A16.al
    have ty8 : ∀ d ∈ [wayT rs, wayT rs2, do', .tuple [], .list (rs.map wrowD), wayT rl, wayT rs3, wayT rs4], Tiny 143 4000 20 d := by
      intro d hd
      simp only [List.mem_cons, List.not_mem_nil, or_false] at hd
      rcases hd with h | h | h | h | h | h | h | h <;> rw [h]
      · exact (way_tiny inW (by omega)).1
      · exact (way_tiny in2 (by omega)).1
      · exact tdo.mono (by decide) (by decide) (by decide)
      · exact (way_tiny (rs := []) (fun q hq => (List.not_mem_nil hq).elim) (by decide)).1
      · exact (way_tiny inW (by omega)).2
      · exact (way_tiny inL (by omega)).1
      · exact (way_tiny in3 (by omega)).1
      · exact (way_tiny in4 (by rw [l4, List.length_take]; omega)).1
    have DA := A16.dk
    have n14' : n14 ≤ n + 90 := by omega
    clear A11 A12 A13 A14 A15 A16 d200 dL alL hdo d2 d3 d4
    have KL : Keep p HA (upd HA L2 (.lst ([.ref t, v2, vo, .ref q3, .ref q4] ++ [.ref tl, v3, v4]))) := Keep.new gL2
    refine ⟨3, rfl, by show -(2 ^ 62) ≤ (3 : Int); decide, by show (3 : Int) < 2 ^ 62; decide, for_range (lo := 0) (n := 3) (fun q σ' J => ∃ (y7 y8 y9 : Option V) (vs : List V) (ds : List PyData) (n' : Nat), σ' = [some (.ref a), some (.ref p), some (.int (0 + (i : Int))), some (.ref th), some (.ref t), some (.ref L2), some (.ref tl), y7, y8, y9, y10, y11] ∧ J L2 = some (.lst vs) ∧ vs.length = 8 + q ∧ DpAll K (off2 p L2 J) vs ds ∧ (∀ d ∈ ds, Tiny 143 4000 20 d) ∧ n' ≤ n14 + 80 * q ∧ Deck K J p n' ∧ Keep p HA J)
      ⟨_, _, _, _, _, n14, rfl, upd_same, rfl, dpAllSame (hide_new gL2) _ _ al8, ty8, by omega, DA.put gL2, KL⟩ ?_ ?_⟩
    · rintro q σ' J hq ⟨y7, y8, y9, vs, ds, n', rfl, hL, lv, al, ty, hn', DJ, KJ⟩
      have K5J := K5A.trans KJ
      have htJ := htOf _ K5J
      have dVJ := K5J.dt dV
      refine ⟨_, rfl, _, rfl, _, rfl, _, rfl, _, rfl, p, th, .ref t, z, r, g, n', rs, rfl, htJ, z2, z4, dVJ, inW, rs0, by omega, DJ, by omega, fun rs5 v5 M1 n2 d5 in5 l5 hn2 E1 K1 => ⟨by show 2 ≤ sizeLine; decide, fun l3' gl3 => ?_⟩⟩
      refine ⟨p, l3', _, n2, rfl, SqL.of upd_same, E1.ne_new gl3, by show 0 < 2; decide, by show 2 < 100000; decide, E1.put gl3, by omega, fun oi ov M2 hov E2 K2 => ?_⟩
      have K12 : Keep p M1 M2 := (Keep.new gl3).trans K2
      obtain ⟨ro, inO, lo, dO⟩ : ∃ ro : List (Int × List Int), InWay ro ∧ ro.length ≤ 6 ∧ Dt K p M2 ov (wayT ro) := by
        have mm := List.mem_of_getElem? hov
        simp only [List.mem_cons, List.not_mem_nil, or_false] at mm
        rcases mm with e | e <;> rw [e]
        · exact ⟨rs, inW, rs6, (K1.trans K12).dt dVJ⟩
        · exact ⟨rs5, in5, by omega, K12.dt d5⟩
      have KJ2 : Keep p J M2 := K1.trans K12
      have hidJ : Hid J L2 := ⟨_, hL⟩
      have hid2 := hidJ.keep L20 KJ2
      have dO2 := dO.hide L20 hid2 (way_noList ro)
      obtain ⟨bn1, bn2, bn3⟩ := way_bend inO lo
      refine ⟨_, rfl, p, 3, n2 + 1, rfl, by decide, by decide, E2, by omega, fun m2 M3 m20 m23 E3 K3' => ⟨_, _, rfl, rfl, ?_⟩⟩
      refine ⟨1 + m2, rfl, by omega, by omega, for_range (lo := 0) (n := (1 + m2).toNat) (fun k σ' J' => ∃ y9 v d n3, σ' = [some (.ref a), some (.ref p), some (.int (0 + (i : Int))), some (.ref th), some (.ref t), some (.ref L2), some (.ref tl), some (.int (0 + (q : Int))), some v, y9, y10, y11] ∧ Dt2 K p L2 J' v d ∧ nice (140 + k) d = true ∧ wt d + 40 ≤ 83 * 2 ^ k ∧ d.depth ≤ 3 + 4 * k ∧ n3 ≤ n2 + 2 + 21 * k ∧ Deck K J' p n3 ∧ Keep p M3 J')
        ⟨_, ov, wayT ro, n2 + 2, rfl, K3'.dt2 dO2, bn1, by omega, bn3, by omega, E3, Keep.refl p M3⟩ ?_ ?_⟩
      · rintro k σ' J' hk ⟨y9, v, d, n3, rfl, hv, hni, hw, hdp, hn3, E4, K4⟩
        have k2 : k ≤ 2 := by omega
        have pk : 2 ^ k ≤ 2 ^ 2 := Nat.pow_le_pow_right (by decide) k2
        refine ⟨_, rfl, _, rfl, _, rfl, p, 4, n3, rfl, by decide, by decide, E4, by omega, fun x J8 x0 x2 E8 K8 => ?_⟩
        have hid8 := (hid2.keep L20 K3').keep L20 (K4.trans K8)
        refine ⟨_, _, rfl, rfl, p, L2, v, d, 1 + x, n3 + 1, 140 + k, rfl, K8.dt2 hv, hni, by omega, by omega, by omega, by omega, by omega, by omega, ⟨E8, hid8, L20⟩, by omega, fun v' d' J9 n4 hv' bd hn4 E9 K9 => ?_⟩
        have pk1 : 2 ^ (k + 1) = 2 ^ k * 2 := Nat.pow_succ 2 k
        have b1 := bd.we
        have b2 := bd.de
        exact ⟨_, v', d', n4, rfl, hv', bd.ni, by omega, by omega, by omega, E9.dk, (K4.trans K8).trans K9⟩
      · rintro σ' J' ⟨y9, v, d, n3, rfl, hv, hni, hw, hdp, hn3, E4, K4⟩
        have m3 : (1 + m2).toNat ≤ 3 := by omega
        have pk : 2 ^ (1 + m2).toNat ≤ 2 ^ 3 := Nat.pow_le_pow_right (by decide) m3
        have KJJ : Keep p J J' := (KJ2.trans K3').trans K4
        have hL' := KJJ.at L20 hL
        have tD : Tiny 143 4000 20 d := ⟨nice_more (by omega) d hni, by omega, by omega⟩
        refine ⟨_, rfl, .inl ⟨rfl, _, SqL.of hL'⟩, _, rfl, L2, _, _, rfl, rfl, hL', small1000 (by omega), ?_⟩
        refine ⟨_, _, _, vs ++ [v], ds ++ [d], n3, rfl, upd_same, by rw [List.length_append, List.length_singleton]; omega, dpAllSame off2_upd _ _ (dpAll_snoc (KJJ.all2 al) hv), fun e he => ?_, by omega, DA.write gL2 (KJ.trans KJJ) E4, (KJ.trans KJJ).write gL2 L20⟩
        rcases List.mem_append.mp he with he | he
        · exact ty e he
        · rw [List.mem_singleton.mp he]
          exact tD
    · rintro σ' J ⟨y7, y8, y9, vs, ds, n', rfl, hL, lv, al, ty, hn', DJ, KJ⟩
      have thL : SqT K J th [.int z, .int r, .int g] := SqT.of (htOf _ (K5A.trans KJ))
      refine ⟨_, rfl, L2, rfl, ⟨_, SqL.of hL⟩, ?_⟩
      refine for_list (K := K) (a := L2) (xs := vs) (fun k σ' J' => Same J J' ∧ ∃ z8 z10 z11, σ' = [some (.ref a), some (.ref p), some (.int (0 + (i : Int))), some (.ref th), some (.ref t), some (.ref L2), some (.ref tl), y7, z8, y9, z10, z11])
        ⟨Same.refl _, _, _, _, rfl⟩ (fun k σ' J' _ ⟨S, _⟩ => SqL.of (S _ _ hL)) ?_ ?_
      · rintro k x σ' J0 hx ⟨S, z8, z10, z11, rfl⟩
        obtain ⟨e, he, xd'⟩ := dpAll_get al hx
        have xd : Dp K J0 x e := dpSame (Same.trans off2_in S) e x xd'
        have te := ty e (List.mem_of_getElem? he)
        have th' := sameT S thL
        have she := nice_shaped te.ni (Nat.le_trans te.de (by decide))
        have hd3 : ∀ M, Same J0 M → Dp K M (.ref th) (.tuple [.int z, .int r, .int g]) := fun M S' => .tup (sameT S' th') (.cons (.int _) (.cons (.int _) (.cons (.int _) .nil)))
        obtain ⟨s1', s2', s3'⟩ := (tiny_pair (z := z) (r := r) (g := g) (by omega) (by omega) (by omega) te).shows (by decide) (by decide) (by decide)
        obtain ⟨b1, b2, b3⟩ := (tiny_tup (e := 143) (W := 10) (m := 0) (ds := [.bool (wayB z e), .bool (wayB z e)]) (fun d hd => by
          simp only [List.mem_cons, List.not_mem_nil, or_false] at hd
          rcases hd with h | h <;> rw [h] <;> exact ⟨by simp [nice], by simp [PyData.depth]⟩) (by simp [wtAll, wt])).2.shows (by decide) (by decide) (by decide)
        refine ⟨_, rfl, _, rfl, by show 2 ≤ sizeLine; decide, fun w1 v1' => ?_⟩
        have S1' : Same J0 (upd J0 w1 (.lst [.ref th, x])) := same_new v1'
        refine ⟨.ref w1, .list [.tuple [.int z, .int r, .int g], e], rfl, .lst (SqL.of upd_same) (.cons (hd3 _ S1') (.cons (dpSame S1' _ _ xd) .nil)), s1', s2', s3', ?_⟩
        generalize upd J0 w1 (.lst [.ref th, x]) = M1 at S1' ⊢
        refine ⟨_, rfl, _, rfl, th, x, z, r, g, e, rfl, sameT S1' th', z2, z4, dpSame S1' _ _ xd, she, fun M2 S2' => ⟨_, _, rfl, ?_⟩⟩
        have S12 := S1'.trans S2'
        refine ⟨_, rfl, _, rfl, th, x, z, r, g, e, rfl, sameT S12 th', z2, z4, dpSame S12 _ _ xd, she, fun M3 S3' => ?_⟩
        have S13 := S12.trans S3'
        refine ⟨_, rfl, _, rfl, th, x, z, r, g, e, rfl, sameT S13 th', z2, z4, dpSame S13 _ _ xd, she, fun M4 S4' => ?_⟩
        have S14 := S13.trans S4'
        refine ⟨by show 2 ≤ sizeLine; decide, fun w2 v2' => ?_⟩
        have S15 := S14.trans (same_new v2' (o := .lst [.bl (wayB z e), .bl (wayB z e)]))
        refine ⟨.ref w2, .list [.bool (wayB z e), .bool (wayB z e)], rfl, .lst (SqL.of upd_same) (.cons (.bl _) (.cons (.bl _) .nil)), b1, b2, b3, ?_⟩
        generalize upd M4 w2 (.lst [.bl (wayB z e), .bl (wayB z e)]) = M5 at S15 ⊢
        refine ⟨_, rfl, _, rfl, by show 2 ≤ sizeLine; decide, fun w3 v3' => ?_⟩
        have S16 := S15.trans (same_new v3' (o := .lst [.bl (wayB z e), .bl (wayB z e)]))
        refine ⟨.ref w3, .list [.bool (wayB z e), .bool (wayB z e)], rfl, .lst (SqL.of upd_same) (.cons (.bl _) (.cons (.bl _) .nil)), b1, b2, b3, rfl, _, rfl, ?_⟩
        refine iteNS rfl ?_
        generalize upd M5 w3 (.lst [.bl (wayB z e), .bl (wayB z e)]) = M6 at S16 ⊢
        refine ⟨_, rfl, _, rfl, by show 2 ≤ sizeLine; decide, fun w4 v4' => ?_⟩
        have S17 := S16.trans (same_new v4' (o := .lst [.ref th, x]))
        refine ⟨.ref w4, .list [.tuple [.int z, .int r, .int g], e], rfl, .lst (SqL.of upd_same) (.cons (hd3 _ S17) (.cons (dpSame S17 _ _ xd) .nil)), s1', s2', s3', _, rfl, rfl, _, rfl, ?_⟩
        refine iteNS rfl ?_
        exact ⟨S.trans S17, _, _, _, rfl⟩
      · rintro σ' J0 ⟨S, z8, z10, z11, rfl⟩
        exact ⟨_, _, _, _, _, _, _, _, _, _, rfl, n', by omega, DJ.of_same S⟩
  · rintro σ H2 ⟨y2, y3, y4, y5, y6, y7, y8, y9, y10, y11, rfl, n, hn, D2⟩
    rfl
end

theorem all_mk {l : PySem.W.OpenLaw} {w : World} {K : PySem.W.Frag} {h : Heap} {mg : Str → Option Value} {fa : Addr} (X : K.In h) (G : h.Ns mainGlobals mg) (hfa : mg "law" = some (.ref fa))
    {f0 : Addr} {od0 an0 : Option Addr} {sl0 : Array (Option Value)} {oc0 kV0 dc0 pm0 ct0 : Value} {cd0 : Value}
    (a0 : PySem.W.nsIn K mainGlobals "whole" = some (some (.ref f0))) (l0 : K.lookup f0 = some ⟨oc0, od0, .func (PySem.W.fnOf "whole" "whole" (defArgs s_whole) (defBody s_whole) (defScope s_whole) .none kV0 dc0 pm0 an0 cd0 ct0), sl0⟩) (c0 : PySem.W.codeIn K cd0 "whole" = true) (k0 : PySem.W.keepIn K (.ref f0) = true)
    {f1 : Addr} {od1 an1 : Option Addr} {sl1 : Array (Option Value)} {oc1 kV1 dc1 pm1 ct1 : Value} {cd1 : Value}
    (a1 : PySem.W.nsIn K mainGlobals "tuple_of" = some (some (.ref f1))) (l1 : K.lookup f1 = some ⟨oc1, od1, .func (PySem.W.fnOf "tuple_of" "tuple_of" (defArgs s_tuple_of) (defBody s_tuple_of) (defScope s_tuple_of) .none kV1 dc1 pm1 an1 cd1 ct1), sl1⟩) (c1 : PySem.W.codeIn K cd1 "tuple_of" = true) (k1 : PySem.W.keepIn K (.ref f1) = true)
    {f2 : Addr} {od2 an2 : Option Addr} {sl2 : Array (Option Value)} {oc2 kV2 dc2 pm2 ct2 : Value} {cd2 : Value}
    (a2 : PySem.W.nsIn K mainGlobals "is_row_behind" = some (some (.ref f2))) (l2 : K.lookup f2 = some ⟨oc2, od2, .func (PySem.W.fnOf "is_row_behind" "is_row_behind" (defArgs s_is_row_behind) (defBody s_is_row_behind) (defScope s_is_row_behind) .none kV2 dc2 pm2 an2 cd2 ct2), sl2⟩) (c2 : PySem.W.codeIn K cd2 "is_row_behind" = true) (k2 : PySem.W.keepIn K (.ref f2) = true)
    {f3 : Addr} {od3 an3 : Option Addr} {sl3 : Array (Option Value)} {oc3 kV3 dc3 pm3 ct3 : Value} {cd3 : Value}
    (a3 : PySem.W.nsIn K mainGlobals "is_way_row" = some (some (.ref f3))) (l3 : K.lookup f3 = some ⟨oc3, od3, .func (PySem.W.fnOf "is_way_row" "is_way_row" (defArgs s_is_way_row) (defBody s_is_way_row) (defScope s_is_way_row) .none kV3 dc3 pm3 an3 cd3 ct3), sl3⟩) (c3 : PySem.W.codeIn K cd3 "is_way_row" = true) (k3 : PySem.W.keepIn K (.ref f3) = true)
    {f4 : Addr} {od4 an4 : Option Addr} {sl4 : Array (Option Value)} {oc4 kV4 dc4 pm4 ct4 : Value} {cd4 : Value}
    (a4 : PySem.W.nsIn K mainGlobals "is_way" = some (some (.ref f4))) (l4 : K.lookup f4 = some ⟨oc4, od4, .func (PySem.W.fnOf "is_way" "is_way" (defArgs s_is_way) (defBody s_is_way) (defScope s_is_way) .none kV4 dc4 pm4 an4 cd4 ct4), sl4⟩) (c4 : PySem.W.codeIn K cd4 "is_way" = true) (k4 : PySem.W.keepIn K (.ref f4) = true)
    {f5 : Addr} {od5 an5 : Option Addr} {sl5 : Array (Option Value)} {oc5 kV5 dc5 pm5 ct5 : Value} {cd5 : Value}
    (a5 : PySem.W.nsIn K mainGlobals "_law_deck" = some (some (.ref f5))) (l5 : K.lookup f5 = some ⟨oc5, od5, .func (PySem.W.fnOf "_law_deck" "_law_deck" (defArgs s_deck) (defBody s_deck) (defScope s_deck) .none kV5 dc5 pm5 an5 cd5 ct5), sl5⟩) (c5 : PySem.W.codeIn K cd5 "_law_deck" = true) (k5 : PySem.W.keepIn K (.ref f5) = true)
    {f6 : Addr} {od6 an6 : Option Addr} {sl6 : Array (Option Value)} {oc6 kV6 dc6 pm6 ct6 : Value} {cd6 : Value}
    (a6 : PySem.W.nsIn K mainGlobals "_law_draw" = some (some (.ref f6))) (l6 : K.lookup f6 = some ⟨oc6, od6, .func (PySem.W.fnOf "_law_draw" "_law_draw" (defArgs s_draw) (defBody s_draw) (defScope s_draw) .none kV6 dc6 pm6 an6 cd6 ct6), sl6⟩) (c6 : PySem.W.codeIn K cd6 "_law_draw" = true) (k6 : PySem.W.keepIn K (.ref f6) = true)
    {f7 : Addr} {od7 an7 : Option Addr} {sl7 : Array (Option Value)} {oc7 kV7 dc7 pm7 ct7 : Value} {cd7 : Value}
    (a7 : PySem.W.nsIn K mainGlobals "_law_one" = some (some (.ref f7))) (l7 : K.lookup f7 = some ⟨oc7, od7, .func (PySem.W.fnOf "_law_one" "_law_one" (defArgs s_one) (defBody s_one) (defScope s_one) .none kV7 dc7 pm7 an7 cd7 ct7), sl7⟩) (c7 : PySem.W.codeIn K cd7 "_law_one" = true) (k7 : PySem.W.keepIn K (.ref f7) = true)
    {f8 : Addr} {od8 an8 : Option Addr} {sl8 : Array (Option Value)} {oc8 kV8 dc8 pm8 ct8 : Value} {cd8 : Value}
    (a8 : PySem.W.nsIn K mainGlobals "_law_odd" = some (some (.ref f8))) (l8 : K.lookup f8 = some ⟨oc8, od8, .func (PySem.W.fnOf "_law_odd" "_law_odd" (defArgs s_odd) (defBody s_odd) (defScope s_odd) .none kV8 dc8 pm8 an8 cd8 ct8), sl8⟩) (c8 : PySem.W.codeIn K cd8 "_law_odd" = true) (k8 : PySem.W.keepIn K (.ref f8) = true)
    {f9 : Addr} {od9 an9 : Option Addr} {sl9 : Array (Option Value)} {oc9 kV9 dc9 pm9 ct9 : Value} {cd9 : Value}
    (a9 : PySem.W.nsIn K mainGlobals "_law_bent" = some (some (.ref f9))) (l9 : K.lookup f9 = some ⟨oc9, od9, .func (PySem.W.fnOf "_law_bent" "_law_bent" (defArgs s_bent) (defBody s_bent) (defScope s_bent) .none kV9 dc9 pm9 an9 cd9 ct9), sl9⟩) (c9 : PySem.W.codeIn K cd9 "_law_bent" = true) (k9 : PySem.W.keepIn K (.ref f9) = true)
    {f10 : Addr} {od10 an10 : Option Addr} {sl10 : Array (Option Value)} {oc10 kV10 dc10 pm10 ct10 : Value} {cd10 : Value}
    (a10 : PySem.W.nsIn K mainGlobals "_law_small_house" = some (some (.ref f10))) (l10 : K.lookup f10 = some ⟨oc10, od10, .func (PySem.W.fnOf "_law_small_house" "_law_small_house" (defArgs s_small_house) (defBody s_small_house) (defScope s_small_house) .none kV10 dc10 pm10 an10 cd10 ct10), sl10⟩) (c10 : PySem.W.codeIn K cd10 "_law_small_house" = true) (k10 : PySem.W.keepIn K (.ref f10) = true)
    {f11 : Addr} {od11 an11 : Option Addr} {sl11 : Array (Option Value)} {oc11 kV11 dc11 pm11 ct11 : Value} {cd11 : Value}
    (a11 : PySem.W.nsIn K mainGlobals "_law_drawn_way" = some (some (.ref f11))) (l11 : K.lookup f11 = some ⟨oc11, od11, .func (PySem.W.fnOf "_law_drawn_way" "_law_drawn_way" (defArgs s_drawn_way) (defBody s_drawn_way) (defScope s_drawn_way) .none kV11 dc11 pm11 an11 cd11 ct11), sl11⟩) (c11 : PySem.W.codeIn K cd11 "_law_drawn_way" = true) (k11 : PySem.W.keepIn K (.ref f11) = true)
    {f12 : Addr} {od12 an12 : Option Addr} {sl12 : Array (Option Value)} {oc12 kV12 dc12 pm12 ct12 : Value} {cd12 : Value}
    (a12 : PySem.W.nsIn K mainGlobals "_law_is_int" = some (some (.ref f12))) (l12 : K.lookup f12 = some ⟨oc12, od12, .func (PySem.W.fnOf "_law_is_int" "_law_is_int" (defArgs s_is_int) (defBody s_is_int) (defScope s_is_int) .none kV12 dc12 pm12 an12 cd12 ct12), sl12⟩) (c12 : PySem.W.codeIn K cd12 "_law_is_int" = true) (k12 : PySem.W.keepIn K (.ref f12) = true)
    {f13 : Addr} {od13 an13 : Option Addr} {sl13 : Array (Option Value)} {oc13 kV13 dc13 pm13 ct13 : Value} {cd13 : Value}
    (a13 : PySem.W.nsIn K mainGlobals "_law_is_row" = some (some (.ref f13))) (l13 : K.lookup f13 = some ⟨oc13, od13, .func (PySem.W.fnOf "_law_is_row" "_law_is_row" (defArgs s_is_row) (defBody s_is_row) (defScope s_is_row) .none kV13 dc13 pm13 an13 cd13 ct13), sl13⟩) (c13 : PySem.W.codeIn K cd13 "_law_is_row" = true) (k13 : PySem.W.keepIn K (.ref f13) = true)
    {f14 : Addr} {od14 an14 : Option Addr} {sl14 : Array (Option Value)} {oc14 kV14 dc14 pm14 ct14 : Value} {cd14 : Value}
    (a14 : PySem.W.nsIn K mainGlobals "_law_is_way" = some (some (.ref f14))) (l14 : K.lookup f14 = some ⟨oc14, od14, .func (PySem.W.fnOf "_law_is_way" "_law_is_way" (defArgs s_l_is_way) (defBody s_l_is_way) (defScope s_l_is_way) .none kV14 dc14 pm14 an14 cd14 ct14), sl14⟩) (c14 : PySem.W.codeIn K cd14 "_law_is_way" = true) (k14 : PySem.W.keepIn K (.ref f14) = true)
    {f15 : Addr} {od15 an15 : Option Addr} {sl15 : Array (Option Value)} {oc15 kV15 dc15 pm15 ct15 : Value} {cd15 : Value}
    (a15 : PySem.W.nsIn K mainGlobals "_law_otherwise" = some (some (.ref f15))) (l15 : K.lookup f15 = some ⟨oc15, od15, .func (PySem.W.fnOf "_law_otherwise" "_law_otherwise" (defArgs s_otherwise) (defBody s_otherwise) (defScope s_otherwise) .none kV15 dc15 pm15 an15 cd15 ct15), sl15⟩) (c15 : PySem.W.codeIn K cd15 "_law_otherwise" = true) (k15 : PySem.W.keepIn K (.ref f15) = true)
    {f16 : Addr} {od16 an16 : Option Addr} {sl16 : Array (Option Value)} {oc16 kV16 dc16 pm16 ct16 : Value} {cd16 : Value}
    (a16 : PySem.W.nsIn K mainGlobals "law" = some (some (.ref f16))) (l16 : K.lookup f16 = some ⟨oc16, od16, .func (PySem.W.fnOf "law" "law" (defArgs s_law) (defBody s_law) (defScope s_law) .none kV16 dc16 pm16 an16 cd16 ct16), sl16⟩) (c16 : PySem.W.codeIn K cd16 "law" = true) (k16 : PySem.W.keepIn K (.ref f16) = true)
    {t_WAIT : Tok} (v_WAIT : PySem.W.nsIn K mainGlobals "WAIT" = some (some (.int (-1) t_WAIT)))
    {t_MOST_WAY_ROWS : Tok} (v_MOST_WAY_ROWS : PySem.W.nsIn K mainGlobals "MOST_WAY_ROWS" = some (some (.int (200) t_MOST_WAY_ROWS)))
    (z_abs : PySem.W.nsIn K mainGlobals "abs" = some none)
    (z_all : PySem.W.nsIn K mainGlobals "all" = some none)
    (z_bool : PySem.W.nsIn K mainGlobals "bool" = some none)
    (z_enumerate : PySem.W.nsIn K mainGlobals "enumerate" = some none)
    (z_int : PySem.W.nsIn K mainGlobals "int" = some none)
    (z_isinstance : PySem.W.nsIn K mainGlobals "isinstance" = some none)
    (z_len : PySem.W.nsIn K mainGlobals "len" = some none)
    (z_list : PySem.W.nsIn K mainGlobals "list" = some none)
    (z_range : PySem.W.nsIn K mainGlobals "range" = some none)
    (z_repr : PySem.W.nsIn K mainGlobals "repr" = some none)
    (z_tuple : PySem.W.nsIn K mainGlobals "tuple" = some none)
    : ∃ fd : FuncData, Fun K "law" "law" s_law fa fd ∧ (∀ (s : Shared) (u : Value), BindsTo s fd ⟨[u], []⟩ [("_law_script", u)]) ∧ LawDoes l.prog w K mg s_law ["_law_script", "_law_deck_here", "_law_lap", "_law_house", "_law_value", "_law_some", "_law_long", "_law_k", "_law_thing", "_law_time", "_law_held", "_law_due"] fa := by
  have e := hfa.symm.trans (PySem.W.mg_of X G a16)
  cases e
  have F0 := fun_mk (st := s_whole) l0 c0 k0
  have F1 := fun_mk (st := s_tuple_of) l1 c1 k1
  have F2 := fun_mk (st := s_is_row_behind) l2 c2 k2
  have F3 := fun_mk (st := s_is_way_row) l3 c3 k3
  have F4 := fun_mk (st := s_is_way) l4 c4 k4
  have F5 := fun_mk (st := s_deck) l5 c5 k5
  have F6 := fun_mk (st := s_draw) l6 c6 k6
  have F7 := fun_mk (st := s_one) l7 c7 k7
  have F8 := fun_mk (st := s_odd) l8 c8 k8
  have F9 := fun_mk (st := s_bent) l9 c9 k9
  have F10 := fun_mk (st := s_small_house) l10 c10 k10
  have F11 := fun_mk (st := s_drawn_way) l11 c11 k11
  have F12 := fun_mk (st := s_is_int) l12 c12 k12
  have F13 := fun_mk (st := s_is_row) l13 c13 k13
  have F14 := fun_mk (st := s_l_is_way) l14 c14 k14
  have F15 := fun_mk (st := s_otherwise) l15 c15 k15
  have T : Txt K mg := ⟨_,
    _,
    F0,
    PySem.W.mg_of X G a0,
    F0.binds (ps := ["value", "low", "high"]) fun _ _ _ _ _ _ us hl => match us, hl with | [_, _, _], _ => rfl,
    _,
    _,
    F1,
    PySem.W.mg_of X G a1,
    F1.binds (ps := ["value", "many"]) fun _ _ _ _ _ _ us hl => match us, hl with | [_, _], _ => rfl,
    _,
    _,
    F2,
    PySem.W.mg_of X G a2,
    F2.binds (ps := ["value", "number", "rows"]) fun _ _ _ _ _ _ us hl => match us, hl with | [_, _, _], _ => rfl,
    _,
    _,
    F3,
    PySem.W.mg_of X G a3,
    F3.binds (ps := ["house", "value", "number", "rows"]) fun _ _ _ _ _ _ us hl => match us, hl with | [_, _, _, _], _ => rfl,
    _,
    _,
    F4,
    PySem.W.mg_of X G a4,
    F4.binds (ps := ["house", "value"]) fun _ _ _ _ _ _ us hl => match us, hl with | [_, _], _ => rfl,
    _,
    _,
    F5,
    PySem.W.mg_of X G a5,
    F5.binds (ps := ["_law_script"]) fun _ _ _ _ _ _ us hl => match us, hl with | [_], _ => rfl,
    _,
    _,
    F6,
    PySem.W.mg_of X G a6,
    F6.binds (ps := ["_law_deck_here", "_law_many"]) fun _ _ _ _ _ _ us hl => match us, hl with | [_, _], _ => rfl,
    _,
    _,
    F7,
    PySem.W.mg_of X G a7,
    F7.binds (ps := ["_law_deck_here", "_law_items"]) fun _ _ _ _ _ _ us hl => match us, hl with | [_, _], _ => rfl,
    _,
    _,
    F8,
    PySem.W.mg_of X G a8,
    F8.binds (ps := ["_law_deck_here"]) fun _ _ _ _ _ _ us hl => match us, hl with | [_], _ => rfl,
    _,
    _,
    F9,
    PySem.W.mg_of X G a9,
    F9.binds (ps := ["_law_deck_here", "_law_thing", "_law_deep"]) fun _ _ _ _ _ _ us hl => match us, hl with | [_, _, _], _ => rfl,
    _,
    _,
    F10,
    PySem.W.mg_of X G a10,
    F10.binds (ps := ["_law_deck_here"]) fun _ _ _ _ _ _ us hl => match us, hl with | [_], _ => rfl,
    _,
    _,
    F11,
    PySem.W.mg_of X G a11,
    F11.binds (ps := ["_law_deck_here", "_law_house", "_law_many"]) fun _ _ _ _ _ _ us hl => match us, hl with | [_, _, _], _ => rfl,
    _,
    _,
    F12,
    PySem.W.mg_of X G a12,
    F12.binds (ps := ["_law_value", "_law_low", "_law_high"]) fun _ _ _ _ _ _ us hl => match us, hl with | [_, _, _], _ => rfl,
    _,
    _,
    F13,
    PySem.W.mg_of X G a13,
    F13.binds (ps := ["_law_house", "_law_value", "_law_place", "_law_many"]) fun _ _ _ _ _ _ us hl => match us, hl with | [_, _, _, _], _ => rfl,
    _,
    _,
    F14,
    PySem.W.mg_of X G a14,
    F14.binds (ps := ["_law_house", "_law_value"]) fun _ _ _ _ _ _ us hl => match us, hl with | [_, _], _ => rfl,
    _,
    _,
    F15,
    PySem.W.mg_of X G a15,
    F15.binds (ps := ["_law_deck_here", "_law_house", "_law_value"]) fun _ _ _ _ _ _ us hl => match us, hl with | [_, _, _], _ => rfl,
    _,
    PySem.W.mg_of X G v_WAIT,
    _,
    PySem.W.mg_of X G v_MOST_WAY_ROWS,
    PySem.W.mg_none_of X G z_abs,
    PySem.W.mg_none_of X G z_all,
    PySem.W.mg_none_of X G z_bool,
    PySem.W.mg_none_of X G z_enumerate,
    PySem.W.mg_none_of X G z_int,
    PySem.W.mg_none_of X G z_isinstance,
    PySem.W.mg_none_of X G z_len,
    PySem.W.mg_none_of X G z_list,
    PySem.W.mg_none_of X G z_range,
    PySem.W.mg_none_of X G z_repr,
    PySem.W.mg_none_of X G z_tuple⟩
  exact ⟨_, fun_mk (st := s_law) l16 c16 k16, fun s u => .of_eq rfl, law_does T⟩
end Qu
open PySem PySem.W PyProof.Rows
set_option maxRecDepth 100000 in
set_option maxHeartbeats 0 in
theorem PySem.Challenge.cw_sentnext_k37_what_is_a_way_holds : PySem.Challenge.rw_sentnext_k37_what_is_a_way.Holds := by
  w_on; o_law; k_head; (case hw => w_witness2)
  k_fill
  refine Qu.law_walk (l := PySem.Challenge.rw_sentnext_k37_what_is_a_way) (x := "_law_script") (N := ["_law_script", "_law_deck_here", "_law_lap", "_law_house", "_law_value", "_law_some", "_law_long", "_law_k", "_law_thing", "_law_time", "_law_held", "_law_due"]) rfl rfl Qu.sc_law (fun w h Y => PySem.W.kIn_of Y) ?F
  case F =>
    intro w mg fa h KX G hmg
    refine' Qu.all_mk KX G hmg ?a0 ?l0 ?c0 ?k0 ?a1 ?l1 ?c1 ?k1 ?a2 ?l2 ?c2 ?k2 ?a3 ?l3 ?c3 ?k3 ?a4 ?l4 ?c4 ?k4 ?a5 ?l5 ?c5 ?k5 ?a6 ?l6 ?c6 ?k6 ?a7 ?l7 ?c7 ?k7 ?a8 ?l8 ?c8 ?k8 ?a9 ?l9 ?c9 ?k9 ?a10 ?l10 ?c10 ?k10 ?a11 ?l11 ?c11 ?k11 ?a12 ?l12 ?c12 ?k12 ?a13 ?l13 ?c13 ?k13 ?a14 ?l14 ?c14 ?k14 ?a15 ?l15 ?c15 ?k15 ?a16 ?l16 ?c16 ?k16 ?v_WAIT ?v_MOST_WAY_ROWS ?z_abs ?z_all ?z_bool ?z_enumerate ?z_int ?z_isinstance ?z_len ?z_list ?z_range ?z_repr ?z_tuple
    (case a0 => k_is)
    (case l0 => k_is)
    (case c0 => k_is)
    (case k0 => k_is)
    (case a1 => k_is)
    (case l1 => k_is)
    (case c1 => k_is)
    (case k1 => k_is)
    (case a2 => k_is)
    (case l2 => k_is)
    (case c2 => k_is)
    (case k2 => k_is)
    (case a3 => k_is)
    (case l3 => k_is)
    (case c3 => k_is)
    (case k3 => k_is)
    (case a4 => k_is)
    (case l4 => k_is)
    (case c4 => k_is)
    (case k4 => k_is)
    (case a5 => k_is)
    (case l5 => k_is)
    (case c5 => k_is)
    (case k5 => k_is)
    (case a6 => k_is)
    (case l6 => k_is)
    (case c6 => k_is)
    (case k6 => k_is)
    (case a7 => k_is)
    (case l7 => k_is)
    (case c7 => k_is)
    (case k7 => k_is)
    (case a8 => k_is)
    (case l8 => k_is)
    (case c8 => k_is)
    (case k8 => k_is)
    (case a9 => k_is)
    (case l9 => k_is)
    (case c9 => k_is)
    (case k9 => k_is)
    (case a10 => k_is)
    (case l10 => k_is)
    (case c10 => k_is)
    (case k10 => k_is)
    (case a11 => k_is)
    (case l11 => k_is)
    (case c11 => k_is)
    (case k11 => k_is)
    (case a12 => k_is)
    (case l12 => k_is)
    (case c12 => k_is)
    (case k12 => k_is)
    (case a13 => k_is)
    (case l13 => k_is)
    (case c13 => k_is)
    (case k13 => k_is)
    (case a14 => k_is)
    (case l14 => k_is)
    (case c14 => k_is)
    (case k14 => k_is)
    (case a15 => k_is)
    (case l15 => k_is)
    (case c15 => k_is)
    (case k15 => k_is)
    (case a16 => k_is)
    (case l16 => k_is)
    (case c16 => k_is)
    (case k16 => k_is)
    (case v_WAIT => k_is)
    (case v_MOST_WAY_ROWS => k_is)
    (case z_abs => k_is)
    (case z_all => k_is)
    (case z_bool => k_is)
    (case z_enumerate => k_is)
    (case z_int => k_is)
    (case z_isinstance => k_is)
    (case z_len => k_is)
    (case z_list => k_is)
    (case z_range => k_is)
    (case z_repr => k_is)
    (case z_tuple => k_is)
