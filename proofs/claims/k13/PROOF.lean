import PyProof.Rows.All
import Wide.All
import OpenK.AllK
import Wide.FinOn
import HandS.ForMost
import HandS.IsInst
import HandS.AnyAll
import HandS.EndTab
import HandS.Walk
import HandS.TryOnly
import HandS.TupLe
import HandS.TupAny
import KE.KSortTupG
import HandS.Conv
import HandS.Sort
import HandS.More
import HandS.Set
import HandS.Strs
import HandS.SetFor
import PyProof.WalksMore
import PyProof.TupleIter
import HandS.Iter
import HandS.Zip
import HandS.Star
import HandS.Style
import HandS.TupMul
import PySem.Challenge.RW_wipeways_k13_left_in_order
set_option Elab.async false
set_option linter.all false
set_option maxRecDepth 100000
set_option maxHeartbeats 2000000
namespace Kk
open PySem PySem.Spec PyProof.Rows L2

/-- the element of a generator over signs, where the module's names are to be read -/
def EltB (X : Cx) (sc : Scope) (x : Str) (e : Expr) (pb : Nat → Bool) : Prop :=
  ∀ (ge : Env) (B : Around) (F : Value → Shared → Prop) (c : Nat) (t : Tok) (z : Shared) (m : Str → Option Value),
    ge.scope = sc → ge.globals = mainGlobals → (∀ b o, X.base.get? b = some o → z.heap.get? b = some o) →
    z.heap.Ns ge.locals m → m x = some (.str ⟨#[c]⟩ t) →
    wpAny (model X.prog X.w) B (eval e ge) (fun y z' => y = .bool (pb c) ∧ Keeps z z') F z

section
variable {X : Cx} {pins : List (Addr × Obj)} {σ : L2.St} {H : Hp} {s : Shared}

theorem genB {c P : Addr} {e it : Expr} {x : Str} {px gp : Pos} {sc : Scope} {pb : Nat → Bool} {te : TE} {k : Nat} {G : Value → Shared → Prop} {R : Str → Hp → Prop}
    (room : Room k X.A) (tab : GxR.TabB X.base X.mg c P) (code : X.env.code = .ref c) (gs : GxR.GenS X.env sc x) (pit : PE X it te) (pel : EltB X sc x e pb)
    (fold : ∀ v, genFold it X.env v = pure v) (I : Inv X pins σ H s) (want : te σ H fun v H1 => ∃ a : Str, v = .str a ∧ GxR.TabG H1 P ∧ R a H1)
    (fin : ∀ a H1 g s5, R a H1 → GxR.Ready X pins σ H1 P a pb g s5 → G (.ref g) s5) :
    wpAny (model X.prog X.w) X.A (eval (.GeneratorExp e [⟨.Name x px, it, [], 0⟩] sc gp) X.env) G X.xe s := by
  have deep : X.A.depth < recursionLimit := by have q := room.dp; omega
  refine wpAny_GeneratorExp_walksQ room.hd gs.co (closure_ok gs.free) gs.cell gs.dot gs.loc gs.kind deep ?_ fold
  refine thn (pit.run pins s σ H _ I want) fun xv z ⟨v, H1, J, rv, got⟩ => ?_
  obtain ⟨a, rfl, ⟨rows, isT, trip⟩, rest⟩ := got
  obtain ⟨t, rfl⟩ := _root_.id rv
  refine wpAny_pyIter_str fun io St W st0 => ?_
  have atP : z.heap.get? P = some { cls := .none, data := .fields rows } := J.hok P _ isT
  have ltP : P < z.heap.objs.size := Heap.lt_size atP
  have atP2 : (z.heap.push io).get? P = some { cls := .none, data := .fields rows } := Heap.get?_push_of_some _ atP
  have chd : PySem.W.CodeHd (z.heap.push io) c P := tab.code.keeps fun b u q => Heap.get?_push_of_some _ (J.bk b u q)
  have nl : (z.heap.push io).NoLimit := J.nolimit.push io
  have go : ∀ (cv : Value) (h3 : Heap) (tk : Nat) (rows' : Array Value), Heap.ExtBut P (z.heap.push io) h3 → (z.heap.push io).objs.size ≤ h3.objs.size →
      h3.get? P = some { cls := .none, data := .fields rows' } → (∃ more, rows' = rows ++ more) → TriplesOk rows'.toList →
      wpAny (model X.prog X.w) X.A (builtinsFor X.env.globals X.env.builtins) (fun bi s4 =>
        ∃ Ia fp wr n0 Pf S0 pz F, Value.ref z.heap.objs.size = .ref Ia ∧ (∀ B : Around, B.handled = none → Walks X.prog X.w B Ia fp wr n0 Pf S0) ∧
          S0 0 s4.heap ∧ (∀ b ∈ fp, b < s4.heap.objs.size) ∧ s4.heap.NoLimit ∧ cStatics ∉ wr ∧
          (∀ hr : Heap, (∀ b o, s4.heap.get? b = some o → hr.get? b = some o) →
            QuietGen X.prog X.w (genEnv sc (cloFrom X.env.cells sc.names []) s4.heap.objs.size cv bi X.env) x [] e (List.range s4.heap.objs.size) wr Pf pz F hr) ∧
          (∀ g h5 tk gst, gst.bare = true → s4.heap.objs.size < g → h5.objs.size = g + 1 → (∀ b o, s4.heap.get? b = some o → h5.get? b = some o) →
            WalksS X.prog X.w X.A.in4 g (g :: s4.heap.objs.size :: List.range s4.heap.objs.size) (s4.heap.objs.size :: wr) (GenOnlyQ s4.gens.size) (passing pz n0 0).length
              (fun j y => ∃ i, (passing pz n0 0)[j]? = some i ∧ F i y) (GenAt X.prog X.w X.A.in4 g s4.gens.size s4.heap.objs.size (List.range s4.heap.objs.size) wr pz n0 F) →
            GenAt X.prog X.w X.A.in4 g s4.gens.size s4.heap.objs.size (List.range s4.heap.objs.size) wr pz n0 F 0 { s4 with gens := s4.gens.push gst, toks := tk, heap := h5 } →
            G (.ref g) { s4 with gens := s4.gens.push gst, toks := tk, heap := h5 })) X.xe { z with heap := h3, toks := tk } := by
    intro cv h3 tk rows' ext le3 at3 grown trip3
    obtain ⟨bm, ob, b1, b2, b3, b4, b5, b6, b7, b8⟩ := tab.bm
    have cP : cStatics ≠ P := fun q => by
      obtain ⟨_, ns, _⟩ := J.nolimit
      obtain ⟨o9, es, ep, g9, d9, _⟩ := ns
      rw [q, atP] at g9; cases g9; cases d9
    have cLt : cStatics < z.heap.objs.size := let ⟨_, ns, _⟩ := J.nolimit; ns.lt
    have szI : (z.heap.push io).objs.size = z.heap.objs.size + 1 := Heap.size_push ..
    have kp3 : ∀ b u, b ≠ P → z.heap.get? b = some u → h3.get? b = some u := fun b u nb q => ext b u nb (Heap.get?_push_of_some _ q)
    have kpB : ∀ b u, X.base.get? b = some u → h3.get? b = some u ∧ b < z.heap.objs.size := fun b u q => by
      obtain ⟨q1, q2⟩ := J.bs b u q
      exact ⟨kp3 b u (fun zz => by rw [zz, isT] at q2; cases q2) q1, Heap.lt_size q1⟩
    refine wpAny_builtinsFor (m := X.mg) (by rw [J.ok.glob]; exact ((J.mod.glob.keeps J.bk).push io).extBut ext tab.gP) b1 b2 (kp3 _ _ b4 (J.bk _ _ b5)) b6 b7 b8 ?_
    refine ⟨z.heap.objs.size, [z.heap.objs.size], [z.heap.objs.size], a.cps.size, SignAt a, St, (fun _ => true), (fun i y => ∃ cc, a.cps[i]? = some cc ∧ y = .bool (pb cc)), rfl, W,
      ?_, ?_, nl.extBut ext cP, ?_, ?_, ?_⟩
    · refine (W X.A room.hd).frame _ _ _ st0 fun b hb u q => ext b u (fun zz => ?_) q
      rcases List.mem_cons.mp hb with z2 | z2
      · exact Nat.ne_of_lt ltP (zz.symm.trans z2)
      · cases z2
    · intro b hb
      rcases List.mem_cons.mp hb with q | q
      · rw [q]; show z.heap.objs.size < h3.objs.size; omega
      · cases q
    · intro q
      rcases List.mem_cons.mp q with q | q
      · exact Nat.ne_of_lt cLt q
      · cases q
    · intro hr hhr
      refine ⟨fun B E' i v s2 m2 hB hPv hn hm hk => ?_, fun B E' i v s2 m2 hB hPv hp hn hm hk => ?_⟩
      · simp only [List.forIn_nil]
        exact wpAny_pure ⟨rfl, GxR.keeps_refl _⟩
      · obtain ⟨cc, u, hcc, rfl⟩ := hPv
        refine wpAny_mono (pel _ B E' cc u s2 m2 rfl J.ok.glob (fun b o q => ?_) hn hm) (fun y s3 r => ⟨⟨cc, hcc, r.1⟩, r.2⟩) fun _ _ q => q
        obtain ⟨q1, q2⟩ := kpB b o q
        exact hk b (List.mem_range.mpr (Heap.lt_size q1)) (fun zz => by
          rcases List.mem_cons.mp zz with zz | zz
          · exact Nat.ne_of_lt q2 zz
          · cases zz) o (hhr b o q1)
    · intro g h5 tk5 gst bare gt sz5 kp5 W5 at0
      simp only [GxR.passing_true, List.length_range] at W5
      refine fin a H1 g _ rest ⟨_, _, _, _, _, W5.in4_1, at0, ?_, fun s9 mv => ?_⟩
      · intro j y sj Qj Ej hy hQj
        obtain ⟨i, hij, cc, hcc, rfl⟩ := hy
        obtain ⟨hj, ej⟩ := List.getElem?_eq_some_iff.mp hij
        rw [List.getElem_range] at ej
        subst ej
        have q9 : a.cps.toList[j]? = some cc := by rw [Array.getElem?_toList]; exact hcc
        have hQ2 : Qj (GxR.trF pb a.cps.toList j) sj := hQj
        rw [GxR.trF_some q9] at hQ2
        exact wpAny_truthy_bool hQ2
      · obtain ⟨more, em⟩ := grown
        have nw : ∀ b u, z.heap.get? b = some u → b ∉ h3.objs.size :: [z.heap.objs.size] := fun b u q hb => by
          have lb := Heap.lt_size q
          rcases List.mem_cons.mp hb with q | q
          · rw [q] at lb
            have q9 : (h3.objs.size : Nat) < z.heap.objs.size := lb
            omega
          · rcases List.mem_cons.mp q with q | q
            · rw [q] at lb; exact Nat.lt_irrefl _ lb
            · cases q
        have J2 := GxR.inv_tab (more := more) (h' := s9.heap) (g' := s9.gens) (d' := s9.drawn) (t' := s9.toks) J isT (fun b u nb q => mv.heap b u (nw b u q) (kp5 b u (kp3 b u nb q)))
          (by rw [← em]; exact mv.heap P _ (nw P _ atP) (kp5 P _ at3)) (AllBare.movedS (J.bare.push bare) mv)
        rw [GxR.sh_eta z s9 mv.os] at J2
        exact ⟨upd H1 P (.tbl (rows ++ more)), ⟨⟨rows ++ more, upd_same, by rw [← em]; exact trip3⟩, fun b nb => upd_ne nb⟩, J2⟩
  refine ⟨nl, ?_⟩
  cases am : codeAmong gp rows.toList with
  | none =>
    refine wpAny_genexprCodeX code (chd.code atP2 trip) (chd.tab atP2) am fun c' h' tk hx hge hlt hco _ htab _ => ?_
    obtain ⟨o1, vs, f1, tf, fl, tg, inF, tx, tt, op, _, _, _, _, _, _, _, _, _, htr, _⟩ := hco
    exact go _ h' tk _ hx (Nat.le_trans hge (Nat.le_of_lt hlt)) htab.2 ⟨_, rfl⟩ htr
  | some cv =>
    refine wpAny_genexprCode_hit code (chd.code atP2 trip) am ?_
    exact go cv (z.heap.push io) z.toks rows (Heap.ExtBut.refl _ _) (Nat.le_refl _) atP2 ⟨#[], by simp⟩ trip

/-- all(e for x in a text) -/
theorem pe_allB {c P : Addr} {e it : Expr} {x : Str} {px p pos gp : Pos} {sc : Scope} {pb : Nat → Bool} {te : TE} {k : Nat}
    (room : Room k X.A) (hg : Gl X "all") (hm : X.mg "all" = none) (tab : GxR.TabB X.base X.mg c P) (code : X.env.code = .ref c) (gs : GxR.GenS X.env sc x) (pit : PE X it te) (pel : EltB X sc x e pb)
    (fold : ∀ v, genFold it X.env v = pure v)
    (he : starEach [.GeneratorExp e [⟨.Name x px, it, [], 0⟩] sc gp] X.env = (false, eval (.GeneratorExp e [⟨.Name x px, it, [], 0⟩] sc gp) X.env) :: starEach [] X.env := by rfl) :
    PE X (.Call (.Name "all" p) [.GeneratorExp e [⟨.Name x px, it, [], 0⟩] sc gp] [] pos) (GxR.tAllS P pb te) := by
  refine ⟨fun pins s σ H Q I want => ?_⟩
  have hb : bootBuiltins "all" = some (.builtin "all") := by decide +kernel
  refine wpAny_Call_Name_kw (ld_blt I hg hm hb ?_)
  refine PyProof.Rows.callWith_builtin1 ?_ he (by rfl)
  rw [he]
  show wpAny _ _ (spliced ((false, eval (.GeneratorExp e [⟨.Name x px, it, [], 0⟩] sc gp) X.env) :: backTo pos (starEach [] X.env))) _ _ s
  refine Calls.spliced_cons (genB (R := fun a H1 => ∀ H2, GxR.Tabbed P H1 H2 → Q (.bl (a.cps.toList.all pb)) H2) room tab code gs pit pel fold I want fun a H1 g s5 hR rd => ?_)
  obtain ⟨fp, wr, G, F, St, W, hst, htr, hI⟩ := rd
  refine Calls.spliced_nil ?_
  refine call_all_walkS (W.self 0 _ _ _ hst ⟨g, fp, wr, G, _, F, St, _, rfl, W, hst, htr, fun s' mv => ?_⟩)
  obtain ⟨H2, hT, J⟩ := hI s' mv
  refine ⟨.bl _, H2, J, rfl, ?_⟩
  rw [GxR.all_signs a pb]
  exact hR H2 hT

/-- x in NAME: NAME a text of the module -/
theorem elt_in {sc : Scope} {x y z : Str} {tz : Tok} {p1 p2 p3 : Pos} (gls : X.base.Ns mainGlobals X.mg) (hk : sc.kind = .function) (hl : sc.names.lookup x = some .local)
    (hy : sc.names.lookup y = some .globalImplicit) (hm : X.mg y = some (.str z tz)) (hd : (x == ("__debug__" : Str)) = false := by decide) (hd2 : (y == ("__debug__" : Str)) = false := by decide) :
    EltB X sc x (.Compare (.Name x p1) [.In] [.Name y p2] p3) (fun c => decide (c ∈ z.cps.toList)) := by
  intro ge B F c t q m hs hgl kb hn hx
  refine wpAny_Compare1 ?_
  refine wpAny_Name (wpAny_loadName_local (by rw [hs]; exact hk) (show ge.scope.names.lookup x = some .local by rw [hs]; exact hl) hn hx ?_) hd
  refine Calls.Name_function_global (by rw [hs]; exact hk) ?_ (Calls.loadGlobal_global (by rw [hgl]; exact gls.keeps kb) hm ?_) hd2
  · show ge.scope.names.lookup y = some .globalImplicit
    rw [hs]; exact hy
  · refine PyProof.Rows.in_str ⟨?_, GxR.keeps_refl _⟩
    rw [PySem.StrLaws.found_one z c]
end
end Kk

namespace Kk
open PySem PySem.Spec PyProof.Rows L2

/-- no table of a code object -/
def NoTb (o : HO) : Prop := ∀ ps, o ≠ .tbl ps
theorem nt_lst {xs : List V} : NoTb (.lst xs) := fun _ h => by cases h
theorem nt_tup {xs : List V} : NoTb (.tup xs) := fun _ h => by cases h
theorem nt_dK {xs : List (Key × V)} : NoTb (.dK xs) := fun _ h => by cases h
theorem nt_frz {o : Obj} {u : HO} : NoTb (.frz o u) := fun _ h => by cases h
/-- what never changes -/
def Fx : HO → Bool
  | .tup _ => true
  | .frz _ _ => true
  | _ => false
/-- what stands stays, but for xs and what the tables grow by; nothing vanishes; tuples stay -/
structure Ex (xs : List Addr) (H H' : Hp) : Prop where
  a : ∀ b o, b ∉ xs → H b = some o → NoTb o → H' b = some o
  c : ∀ b o, H b = some o → Fx o = true → H' b = some o
  t : ∀ P, GxR.TabG H P → GxR.TabG H' P
  f : ∀ b, H' b = none → H b = none
theorem Ex.refl {xs : List Addr} {H : Hp} : Ex xs H H := ⟨fun _ _ _ h _ => h, fun _ _ h _ => h, fun _ h => h, fun _ h => h⟩
theorem Ex.trans {xs : List Addr} {H H1 H2 : Hp} (a : Ex xs H H1) (b : Ex xs H1 H2) : Ex xs H H2 :=
  ⟨fun c o n h t => b.a c o n (a.a c o n h t) t, fun c o h t => b.c c o (a.c c o h t) t, fun P h => b.t P (a.t P h), fun c h => a.f c (b.f c h)⟩
theorem Ex.mono {xs ys : List Addr} {H H' : Hp} (a : Ex xs H H') (s : ∀ b, b ∈ xs → b ∈ ys) : Ex ys H H' := ⟨fun c o n h t => a.a c o (fun q => n (s c q)) h t, a.c, a.t, a.f⟩
theorem Ex.nil {ys : List Addr} {H H' : Hp} (a : Ex [] H H') : Ex ys H H' := a.mono fun _ q => by cases q
theorem tab_upd {H : Hp} {P p : Addr} {o : HO} (t : GxR.TabG H P) (n : ∀ ps, H p ≠ some (.tbl ps)) : GxR.TabG (upd H p o) P := by
  obtain ⟨ps, h, q⟩ := t
  refine ⟨ps, ?_, q⟩
  rw [upd_ne fun z => n ps (by rw [← z]; exact h)]
  exact h
theorem upd_free {H : Hp} {p b : Addr} {o : HO} (h : upd H p o b = none) : H b = none := by
  by_cases z : b = p
  · rw [z, upd_same] at h; cases h
  · rw [upd_ne z] at h; exact h
theorem Ex.new {xs : List Addr} {H : Hp} {p : Addr} {o : HO} (n : H p = none) : Ex xs H (upd H p o) :=
  ⟨fun b u _ h _ => by rw [upd_ne (ne_of_none h n)]; exact h, fun b u h _ => by rw [upd_ne (ne_of_none h n)]; exact h, fun P h => tab_upd h fun ps z => (by rw [n] at z; cases z), fun b h => upd_free h⟩
theorem Ex.put {xs : List Addr} {H : Hp} {p : Addr} {u o : HO} (h0 : H p = some u) (nt : NoTb u) (m : p ∈ xs) (fx : Fx u = false := by rfl) : Ex xs H (upd H p o) :=
  ⟨fun b w nb h _ => by rw [upd_ne fun z => nb (by rw [z]; exact m)]; exact h, fun b w h k => (by
    have nb : b ≠ p := fun z => by rw [z, h0] at h; cases h; rw [fx] at k; cases k
    rw [upd_ne nb]; exact h), fun P h => tab_upd h fun ps z => (by rw [h0] at z; cases z; exact nt _ rfl), fun b h => upd_free h⟩
/-- an object of one's own, made on the way, may have changed -/
theorem Ex.own {xs : List Addr} {H H1 H' : Hp} {p : Addr} (n : H p = none) (e : Ex xs H H1) (a : Ex (p :: xs) H1 H') : Ex xs H H' :=
  ⟨fun b u nb h t => a.a b u (fun q => by
      rcases List.mem_cons.mp q with z | z
      · rw [z, n] at h; cases h
      · exact nb z) (e.a b u nb h t) t, fun b u h k => a.c b u (e.c b u h k) k, fun P h => a.t P (e.t P h), fun b h => e.f b (a.f b h)⟩
theorem Ex.lst {xs : List Addr} {H H' : Hp} {p : Addr} {ys : List V} (a : Ex xs H H') (h : H p = some (.lst ys)) (n : p ∉ xs := by simp) : H' p = some (.lst ys) := a.a p _ n h nt_lst
theorem Ex.dK {xs : List Addr} {H H' : Hp} {p : Addr} {ys : List (Key × V)} (a : Ex xs H H') (h : H p = some (.dK ys)) (n : p ∉ xs := by simp) : H' p = some (.dK ys) := a.a p _ n h nt_dK
theorem Ex.tup {xs : List Addr} {H H' : Hp} {p : Addr} {ys : List V} (a : Ex xs H H') (h : H p = some (.tup ys)) : H' p = some (.tup ys) := a.c p _ h rfl
theorem Ex.seqL {K : PySem.W.Frag} {xs : List Addr} {H H' : Hp} {p : Addr} {ys : List V} (a : Ex xs H H') (h : SqL K H p ys) (n : p ∉ xs := by simp) : SqL K H' p ys := by
  rcases h with (h | ⟨o, h⟩) | h
  · exact .inl (.inl (a.a p _ n h nt_lst))
  · exact .inl (.inr ⟨o, a.c p _ h rfl⟩)
  · exact .inr h
theorem Ex.seqT {K : PySem.W.Frag} {xs : List Addr} {H H' : Hp} {p : Addr} {ys : List V} (a : Ex xs H H') (h : SqT K H p ys) : SqT K H' p ys := by
  rcases h with (h | ⟨o, h⟩) | h
  · exact .inl (.inl (a.c p _ h rfl))
  · exact .inl (.inr ⟨o, a.c p _ h rfl⟩)
  · exact .inr h
theorem Ex.tabbed {xs : List Addr} {H H' : Hp} {P : Addr} (t : GxR.TabG H P) (k : GxR.Tabbed P H H') : Ex xs H H' := by
  obtain ⟨ps, e, _⟩ := t
  have st : ∀ b o, H b = some o → NoTb o → H' b = some o := fun b o h nt => by
    rw [k.2 b fun z => by rw [z, e] at h; cases h; exact nt _ rfl]; exact h
  refine ⟨fun b o _ h nt => st b o h nt, fun b o h fx => st b o h fun ps z => (by rw [z] at fx; cases fx), fun Q q => ?_, fun b h => ?_⟩
  · by_cases z : Q = P
    · rw [z]; exact k.1
    · obtain ⟨qs, h, r⟩ := q
      exact ⟨qs, by rw [k.2 Q z]; exact h, r⟩
  · by_cases z : b = P
    · obtain ⟨⟨qs, h', _⟩, _⟩ := k
      rw [z, h'] at h; cases h
    · rw [k.2 b z] at h; exact h

/-! data: texts, ints, truths, None, and tuples of these -/
mutual
inductive Tp (K : PySem.W.Frag) (H : Hp) : V → PyData → Prop
  | non : Tp K H .non .none
  | bl (b : Bool) : Tp K H (.bl b) (.bool b)
  | int (i : Int) : Tp K H (.int i) (.int i)
  | str (x : Str) : Tp K H (.str x) (.str x)
  | tup {a : Addr} {xs : List V} {ds : List PyData} : SqT K H a xs → TpAll K H xs ds → Tp K H (.ref a) (.tuple ds)
inductive TpAll (K : PySem.W.Frag) (H : Hp) : List V → List PyData → Prop
  | nil : TpAll K H [] []
  | cons {v : V} {vs : List V} {d : PyData} {ds : List PyData} : Tp K H v d → TpAll K H vs ds → TpAll K H (v :: vs) (d :: ds)
end
section
variable {K : PySem.W.Frag} {H H' : Hp} {xs : List Addr}
mutual
theorem Tp.ex (e : Ex xs H H') : ∀ {v : V} {d : PyData}, Tp K H v d → Tp K H' v d
  | _, _, .non => .non
  | _, _, .bl b => .bl b
  | _, _, .int i => .int i
  | _, _, .str x => .str x
  | _, _, .tup h r => .tup (e.seqT h) (TpAll.ex e r)
theorem TpAll.ex (e : Ex xs H H') : ∀ {vs : List V} {ds : List PyData}, TpAll K H vs ds → TpAll K H' vs ds
  | _, _, .nil => .nil
  | _, _, .cons h r => .cons (Tp.ex e h) (TpAll.ex e r)
end
mutual
theorem Tp.dp : ∀ {v : V} {d : PyData}, Tp K H v d → Dp K H v d
  | _, _, .non => .non
  | _, _, .bl b => .bl b
  | _, _, .int i => .int i
  | _, _, .str x => .str x
  | _, _, .tup h r => .tup h (TpAll.dp r)
theorem TpAll.dp : ∀ {vs : List V} {ds : List PyData}, TpAll K H vs ds → DpAll K H vs ds
  | _, _, .nil => .nil
  | _, _, .cons h r => .cons (Tp.dp h) (TpAll.dp r)
end
theorem TpAll.len {vs : List V} {ds : List PyData} (h : TpAll K H vs ds) : vs.length = ds.length := by
  induction vs generalizing ds with
  | nil => cases h; rfl
  | cons v vs ih => cases h with | cons a b => rw [List.length_cons, List.length_cons, ih b]
theorem TpAll.get {vs : List V} {ds : List PyData} (h : TpAll K H vs ds) : ∀ {i : Nat} {v : V}, vs[i]? = some v → ∃ d, ds[i]? = some d ∧ Tp K H v d := by
  induction vs generalizing ds with
  | nil => intro i v e; simp at e
  | cons v0 vs ih =>
    cases h with
    | cons a b =>
      intro i v e
      cases i with
      | zero => cases e; exact ⟨_, rfl, a⟩
      | succ i => exact ih b (i := i) (by simpa using e)
theorem TpAll.app {vs us : List V} {ds es : List PyData} (h : TpAll K H vs ds) (g : TpAll K H us es) : TpAll K H (vs ++ us) (ds ++ es) := by
  induction vs generalizing ds with
  | nil => cases h; exact g
  | cons v vs ih => cases h with | cons a b => exact .cons a (ih b)
theorem TpAll.strs : ∀ ws : List Str, TpAll K H (ws.map V.str) (ws.map PyData.str)
  | [] => .nil
  | w :: ws => .cons (.str w) (TpAll.strs ws)
theorem Tp.new {p : Addr} {ts : List V} {ds : List PyData} (n : H p = none) (h : TpAll K H ts ds) : Tp K (upd H p (.tup ts)) (.ref p) (.tuple ds) :=
  .tup (.of upd_same) (h.ex (.new (xs := []) n))
end

/-- a def whose code object is known: its generators' codes go into its own table -/
theorem okC {P : Program} {w : World} {K : PySem.W.Frag} {mg : Str → Option Value} {base : Heap} {x qual : Str} {st : Stmt} {f c : Addr} {N ps : List Str} {k : Nat} {sp : Sp}
    {oc : Value} {od an : Option Addr} {osl : Array (Option Value)} {kV doc pm ct : Value}
    (lk : K.lookup f = some ⟨oc, od, .func (PySem.W.fnOf x qual (defArgs st) (defBody st) (defScope st) .none kV doc pm an (.ref c) ct), osl⟩) (hc : PySem.W.codeIn K (.ref c) qual = true)
    (S : FnScope N ps (defScope st)) (len : ∀ vs H Q E, sp vs H Q E → vs.length = ps.length)
    (body : ∀ (A : Around) (outer : List Env) (s : Shared) (H : Hp) (vs : List V) (Q : VK) (E : XK), Room k (A.deeper (envOfC qual (defScope st) s.heap.objs.size f (.ref c))) → sp vs H Q E →
      ∃ t, PSs (cxOf CX0 P w K mg base N qual (defScope st) f (.ref c) A outer s H E).nox (defBody st) t ∧ t { nx := fun _ H' => Q .non H', rt := Q } (start N vs) H) :
    FnOk P w K mg base CX0 (k + 1) f (PySem.W.fnOf x qual (defArgs st) (defBody st) (defScope st) .none kV doc pm an (.ref c) ct) ps sp := by
  refine fn_of lk hc S len fun A outer s H vs Q E hr hsp => ?_
  obtain ⟨t, h, q⟩ := body A outer s H vs Q E hr hsp
  exact ⟨t, h.nox, q⟩
/-- a def that may be called: its promise, where it stands, how its arguments come -/
structure Cl (P : Program) (w : World) (K : PySem.W.Frag) (mg : Str → Option Value) (base : Heap) (k : Nat) (x : Str) (ps : List Str) (sp : Sp) (f : Addr) (fd : FuncData) : Prop where
  g : FnOk P w K mg base CX0 k f fd ps sp
  k : PySem.W.keepIn K (.ref f) = true
  b : Binds K fd ps []
  m : mg x = some (.ref f)
/-- where a def stands -/
structure At (K : PySem.W.Frag) (mg : Str → Option Value) (x : Str) (st : Stmt) (ps : List Str) (f : Addr) (fd : FuncData) : Prop where
  F : Fun K x x st f fd
  b : Binds K fd ps []
  m : mg x = some (.ref f)
theorem At.cl {P : Program} {w : World} {K : PySem.W.Frag} {mg : Str → Option Value} {base : Heap} {x : Str} {st : Stmt} {ps : List Str} {f : Addr} {fd : FuncData} {j k : Nat} {sp : Sp} (A : At K mg x st ps f fd) (g : FnOk P w K mg base CX0 j f fd ps sp) (h : j ≤ k) :
    Cl P w K mg base k x ps sp f fd := ⟨g.mono h, A.F.kp, A.b, A.m⟩
/-- nothing is promised of a call that never comes -/
theorem ok_never {P : Program} {w : World} {K : PySem.W.Frag} {mg : Str → Option Value} {base : Heap} {k : Nat} {ps : List Str} {f : Addr} {fd : FuncData} : FnOk P w K mg base CX0 k f fd ps (fun _ _ _ _ => False) :=
  ⟨fun _ _ _ _ h => h.elim, fun _ _ _ _ _ _ _ _ _ _ _ _ _ h => h.elim⟩
def rLenK (K : PySem.W.Frag) : List V → Hp → VK → Prop := fun xs H Q => ∃ p ys, xs = [V.ref p] ∧ (SqL K H p ys ∨ SqT K H p ys) ∧ Q (V.int ys.length) H
/-- within a comprehension: the written part is the def's own -/
theorem call_lenK {X : Cx} {K : PySem.W.Frag} (h : X.K = K) : CallR X (.builtin "len") (rLenK K) := by subst h; exact call_len_seq
theorem ix_listK {X : Cx} {K : PySem.W.Frag} (h : X.K = K) : IxR X (rIxL K) := by subst h; exact ix_list
theorem ix_tupK {X : Cx} {K : PySem.W.Frag} (h : X.K = K) : IxR X (rIxT K) := by subst h; exact ix_tup
theorem op_mul_str {X : Cx} : OpR X (binaryOp .Mult) (fun x y H Q => ∃ z n, x = .str z ∧ y = .int n ∧ MulOk z n ∧ Q (.str (Txt.mul z n)) H) := by
  intro pins s σ H x y v u Q I rx ry h
  obtain ⟨z, n, rfl, rfl, ok, q⟩ := h
  obtain ⟨t, rfl⟩ := rx
  obtain ⟨t', rfl⟩ := ry
  exact SB.mul ok fun t2 k => ⟨.str _, H, I.tok k, ⟨_, rfl⟩, q⟩
/-- a list held against the empty one -/
theorem op_eq_nil {X : Cx} {k : Nat} (hr : Room k X.A) : OpR X (compareOp .Eq) (fun x y H Q => ∃ a b xs, x = .ref a ∧ y = .ref b ∧ SqL X.K H a xs ∧ SqL X.K H b [] ∧ Q (.bl xs.isEmpty) H) := by
  intro pins s σ H x y v u Q I rx ry h
  obtain ⟨a, b, xs, rfl, rfl, ha, hb, q⟩ := h
  cases (show v = Value.ref a from rx)
  cases (show u = Value.ref b from ry)
  obtain ⟨its, r, pl, hz⟩ := I.list ha
  obtain ⟨its2, r2, pl2, hz2⟩ := I.list hb
  have e2 : its2 = [] := List.length_eq_zero_iff.mp r2.length.symm
  subst e2
  cases xs with
  | nil =>
    have e1 : its = [] := List.length_eq_zero_iff.mp r.length.symm
    subst e1
    exact SeqAt.eq_listAt (e := fun _ => true) pl.isList pl2.isList rfl hr.units0 (fun j h1 _ => absurd h1 (Nat.not_lt_zero j)) ⟨.bl true, H, I, rfl, q⟩
  | cons z zs =>
    have e1 : its.length = zs.length + 1 := r.length.symm
    refine SeqAt.eq_list_lengthsAt pl.isList pl2.isList ?_ hr.units0 ⟨.bl false, H, I, rfl, q⟩
    simp [e1]
end Kk

namespace Kk
open PySem PySem.Spec PyProof.Rows L2
/-! places: a text, then numbers -/
def plV (nm : Str) (p : List Nat) : List V := .str nm :: p.map fun n => V.int (n : Nat)
def plD (nm : Str) (p : List Nat) : PyData := .tuple (.str nm :: p.map fun n => PyData.int (n : Nat))
def plK (nm : Str) (p : List Nat) : List L2.Key := Sum.inr nm :: p.map fun n => Sum.inl ((n : Nat) : Int)
def plO (nm : Str) (p : List Nat) : List (Int ⊕ List Nat) := Sum.inr nm.cps.toList :: p.map fun n => Sum.inl ((n : Nat) : Int)
def leP (nm : Str) (p q : List Nat) : Prop := PyProof.Rows.lexLt PyProof.Rows.itemOrd (plO nm q) (plO nm p) = false
theorem plK_v (nm : Str) (p : List Nat) : (plK nm p).map kV = plV nm p := by
  unfold plK plV
  rw [List.map_cons, List.map_map]; rfl
theorem nat_map_inj {α : Type} {f : Nat → α} (hf : ∀ a b, f a = f b → a = b) : ∀ {p q : List Nat}, p.map f = q.map f → p = q
  | [], [], _ => rfl
  | [], _ :: _, h => by cases h
  | _ :: _, [], h => by cases h
  | a :: p, b :: q, h => by
    rw [List.map_cons, List.map_cons] at h
    obtain ⟨h1, h2⟩ := List.cons.inj h
    rw [hf a b h1, nat_map_inj hf h2]
theorem plK_inj {nm : Str} {p q : List Nat} (h : plK nm p = plK nm q) : p = q :=
  nat_map_inj (fun a b e => by have := Sum.inl.inj e; omega) (List.cons.inj h).2
theorem plO_inj {nm : Str} {p q : List Nat} (h : plO nm p = plO nm q) : p = q :=
  nat_map_inj (fun a b e => by have := Sum.inl.inj e; omega) (List.cons.inj h).2
theorem plD_inj {nm : Str} {p q : List Nat} (h : plD nm p = plD nm q) : p = q := by
  have h1 := PyData.tuple.inj h
  exact nat_map_inj (fun a b e => by have := PyData.int.inj e; omega) (List.cons.inj h1).2
theorem leP_anti {nm : Str} {p q : List Nat} (h : leP nm p q) (g : leP nm q p) : p = q :=
  plO_inj ((PyProof.Rows.listOrd PyProof.Rows.itemOrd).total _ _ g h)
theorem perm_uniq {α : Type} {R : α → α → Prop} (anti : ∀ a b, R a b → R b a → a = b) : ∀ {l m : List α}, l.Pairwise R → m.Pairwise R → l.Perm m → l = m
  | [], m, _, _, h => (List.Perm.eq_nil h.symm).symm
  | x :: l, [], _, _, h => absurd h.length_eq (by simp)
  | x :: l, y :: m, hl, hm, h => by
    have e : x = y := by
      rcases List.mem_cons.mp (h.mem_iff.mp (List.mem_cons_self (a := x) (l := l))) with e | hx
      · exact e
      · rcases List.mem_cons.mp (h.mem_iff.mpr (List.mem_cons_self (a := y) (l := m))) with e | hy
        · exact e.symm
        · exact anti x y (List.rel_of_pairwise_cons hl hy) (List.rel_of_pairwise_cons hm hx)
    subst e
    rw [perm_uniq anti (List.pairwise_cons.mp hl).2 (List.pairwise_cons.mp hm).2 h.cons_inv]
section
variable {K : PySem.W.Frag} {H : Hp}
theorem ints_inv : ∀ {xs : List V} {p : List Nat}, TpAll K H xs (p.map fun n => PyData.int (n : Nat)) → xs = p.map fun n => V.int (n : Nat)
  | _, [], h => by cases h; rfl
  | _, n :: p, h => by
    cases h with
    | cons a b => cases a; rw [ints_inv b]; rfl
theorem ints_all (p : List Nat) : TpAll K H (p.map fun n => V.int (n : Nat)) (p.map fun n => PyData.int (n : Nat)) := by
  induction p with
  | nil => exact .nil
  | cons n p ih => exact .cons (.int _) ih
theorem tp_pl {v : V} {nm : Str} {p : List Nat} (h : Tp K H v (plD nm p)) : ∃ a, v = .ref a ∧ SqT K H a (plV nm p) := by
  unfold plD at h
  cases h with
  | tup hs ha =>
    cases ha with
    | cons a1 a2 =>
      cases a1
      have e := ints_inv a2
      subst e
      exact ⟨_, rfl, hs⟩
theorem pl_tp {a : Addr} {nm : Str} {p : List Nat} (h : SqT K H a (plV nm p)) : Tp K H (.ref a) (plD nm p) := .tup h (.cons (.str _) (ints_all p))
end
/-! two lists, item by item -/
inductive P2 {α β : Type} (R : α → β → Prop) : List α → List β → Prop
  | nil : P2 R [] []
  | cons {a : α} {b : β} {l : List α} {m : List β} : R a b → P2 R l m → P2 R (a :: l) (b :: m)
theorem P2.perm {α β : Type} {R : α → β → Prop} {l l' : List α} (p : l.Perm l') : ∀ {m : List β}, P2 R l m → ∃ m', m.Perm m' ∧ P2 R l' m' := by
  induction p with
  | nil => intro m h; exact ⟨m, List.Perm.refl _, h⟩
  | cons x _ ih =>
    intro m h
    cases h with
    | cons a b =>
      obtain ⟨m', q, r⟩ := ih b
      exact ⟨_ :: m', q.cons _, .cons a r⟩
  | swap x y l =>
    intro m h
    cases h with
    | cons a b =>
      cases b with
      | cons c d => exact ⟨_, List.Perm.swap _ _ _, .cons c (.cons a d)⟩
  | trans _ _ ih1 ih2 =>
    intro m h
    obtain ⟨m1, q1, r1⟩ := ih1 h
    obtain ⟨m2, q2, r2⟩ := ih2 r1
    exact ⟨m2, q1.trans q2, r2⟩
theorem P2.get {α β : Type} {R : α → β → Prop} {l : List α} {m : List β} (h : P2 R l m) : ∀ {i : Nat} {b : β}, m[i]? = some b → ∃ a, l[i]? = some a ∧ R a b := by
  induction h with
  | nil => intro i b e; simp at e
  | cons a _ ih =>
    intro i b e
    cases i with
    | zero => cases e; exact ⟨_, rfl, a⟩
    | succ i => exact ih (i := i) (by simpa using e)
theorem P2.len {α β : Type} {R : α → β → Prop} {l : List α} {m : List β} (h : P2 R l m) : l.length = m.length := by
  induction h with
  | nil => rfl
  | cons _ _ ih => rw [List.length_cons, List.length_cons, ih]
section
variable {K : PySem.W.Frag} {H : Hp}
theorem P2.tp {nm : Str} : ∀ {us : List V} {ps : List (List Nat)}, P2 (fun v p => Tp K H v (plD nm p)) us ps → TpAll K H us (ps.map (plD nm))
  | _, _, .nil => .nil
  | _, _, .cons a b => .cons a (P2.tp b)
theorem tp_p2 {nm : Str} : ∀ {us : List V} {ps : List (List Nat)}, TpAll K H us (ps.map (plD nm)) → P2 (fun v p => Tp K H v (plD nm p)) us ps
  | _, [], h => by cases h; exact .nil
  | _, p :: ps, h => by
    cases h with
    | cons a b => exact .cons a (tp_p2 b)
end
/-- a place, tracked -/
def PlT (nm : Str) (H : Hp) (v : V) (p : List Nat) : Prop := ∃ a, v = .ref a ∧ H a = some (.tup (plV nm p))
theorem PlT.tp {K : PySem.W.Frag} {H : Hp} {nm : Str} {v : V} {p : List Nat} (h : PlT nm H v p) : Tp K H v (plD nm p) := by
  obtain ⟨a, rfl, h⟩ := h
  exact pl_tp (.of h)
theorem PlT.ex {xs : List Addr} {H H' : Hp} {nm : Str} {v : V} {p : List Nat} (h : PlT nm H v p) (e : Ex xs H H') : PlT nm H' v p := by
  obtain ⟨a, rfl, h⟩ := h
  exact ⟨a, rfl, e.tup h⟩
theorem P2.imp {α β : Type} {R S : α → β → Prop} {l : List α} {m : List β} (h : P2 R l m) (f : ∀ a b, R a b → S a b) : P2 S l m := by
  induction h with
  | nil => exact .nil
  | cons a _ ih => exact .cons (f _ _ a) ih
theorem P2.app {α β : Type} {R : α → β → Prop} {l l' : List α} {m m' : List β} (h : P2 R l m) (g : P2 R l' m') : P2 R (l ++ l') (m ++ m') := by
  induction h with
  | nil => exact g
  | cons a _ ih => exact .cons a ih
theorem P2.getL {α β : Type} {R : α → β → Prop} {l : List α} {m : List β} (h : P2 R l m) : ∀ {i : Nat} {a : α}, l[i]? = some a → ∃ b, m[i]? = some b ∧ R a b := by
  induction h with
  | nil => intro i b e; simp at e
  | cons a _ ih =>
    intro i b e
    cases i with
    | zero => cases e; exact ⟨_, rfl, a⟩
    | succ i => exact ih (i := i) (by simpa using e)
theorem P2.pls {K : PySem.W.Frag} {H : Hp} {nm : Str} {us : List V} {ps : List (List Nat)} (h : P2 (PlT nm H) us ps) : TpAll K H us (ps.map (plD nm)) := by
  induction h with
  | nil => exact .nil
  | cons a _ ih => exact .cons a.tp ih
def sh0 : Nat → Bool := fun i => i == 0
theorem sh_succ (i : Nat) : sh0 (i + 1) = false := rfl
theorem it_ints : ∀ (p : List Nat) (i : Nat) {its : List Value}, Vals (p.map fun n => V.int (n : Nat)) its → PyProof.Rows.tupItems sh0 (i + 1) its = some (p.map fun n => Sum.inl ((n : Nat) : Int))
  | [], i, _, h => by cases h; rfl
  | n :: p, i, _, h => by
    cases h with
    | cons a b =>
      obtain ⟨t, rfl⟩ := a
      unfold PyProof.Rows.tupItems
      rw [sh_succ, if_neg (by decide), it_ints p (i + 1) b]; rfl
theorem it_pl {nm : Str} {p : List Nat} {its : List Value} (h : Vals (plV nm p) its) : PyProof.Rows.tupItems sh0 0 its = some (plO nm p) := by
  unfold plV at h
  cases h with
  | cons a b =>
    obtain ⟨t, rfl⟩ := a
    unfold PyProof.Rows.tupItems
    rw [if_pos (show sh0 0 = true from rfl), it_ints p 0 b]; rfl
section
variable {X : Cx} {pins : List (Addr × Obj)} {σ : L2.St} {H : Hp} {s : Shared}
/-- what the sort sees of a place -/
theorem key_pl {u : Value} {nm : Str} {p : List Nat} (I : Inv X pins σ H s) (hT : PlT nm H (backV u) p) (hr : ∃ a, u = Value.ref a) :
    G.tupKeyC s.heap sh0 u = some (plO nm p) ∧ ∃ f, PyProof.Rows.TupOf s.heap sh0 u f := by
  obtain ⟨a, rfl⟩ := hr
  have h : Tp X.K H (backV (.ref a)) (plD nm p) := hT.tp
  obtain ⟨b, e, hs⟩ := tp_pl h
  cases e
  obtain ⟨its, r, ⟨o, ho, hc, n, hd⟩, hz⟩ := I.tuple hs
  refine ⟨?_, ?_⟩
  · unfold G.tupKeyC
    have e1 : G.isTupObj s.heap (.ref a) = true := by simp [G.isTupObj, ho, hc]
    rw [if_pos e1]
    simp only [PyProof.Rows.tupKey, ho, hd]
    exact it_pl r
  · unfold plV at r
    cases r with
    | cons r1 r2 =>
      obtain ⟨t, rfl⟩ := r1
      exact ⟨_, a, o, _, n, rfl, ho, hc, hd, rfl, fun z => (by cases z), fun _ => ⟨_, _, rfl⟩⟩
theorem tups_pl {nm : Str} (I : Inv X pins σ H s) : ∀ {us : List Value} {ps : List (List Nat)}, P2 (PlT nm H) (us.map backV) ps → (∀ u ∈ us, ∃ a, u = Value.ref a) → ∃ fs, PyProof.Rows.TupsOf s.heap sh0 us fs
  | [], _, _, _ => ⟨[], .nil⟩
  | u :: us, _, h, hr => by
    rw [List.map_cons] at h
    cases h with
    | cons a b =>
      obtain ⟨f, hf⟩ := (key_pl I a (hr u List.mem_cons_self)).2
      obtain ⟨fs, hfs⟩ := tups_pl I b fun v hv => hr v (List.mem_cons_of_mem _ hv)
      exact ⟨f :: fs, .cons hf hfs⟩
theorem P2.memL {α β : Type} {R : α → β → Prop} {l : List α} {m : List β} (h : P2 R l m) {a : α} (ha : a ∈ l) : ∃ b, b ∈ m ∧ R a b := by
  induction h with
  | nil => cases ha
  | cons r _ ih =>
    rcases List.mem_cons.mp ha with e | e
    · rw [e]; exact ⟨_, List.mem_cons_self, r⟩
    · obtain ⟨b, h1, h2⟩ := ih e
      exact ⟨b, List.mem_cons_of_mem _ h1, h2⟩
/-- what a sort of places tells -/
theorem srt_pl {nm : Str} {vs : List Value} {ps : List (List Nat)} {arr : Array Keyed} (I : Inv X pins σ H s) (h : P2 (PlT nm H) (vs.map backV) ps) (hr : ∀ u ∈ vs, ∃ a, u = Value.ref a)
    (hp : arr.Perm (pairsOf vs)) (hs : SortedToK (G.tupKindC s.heap sh0) arr (pairsOf vs).size) :
    ∃ qs, qs.Perm ps ∧ qs.Pairwise (leP nm) ∧ P2 (PlT nm H) ((arr.map (·.2)).toList.map backV) qs ∧ (∀ u ∈ (arr.map (·.2)).toList, ∃ a, u = Value.ref a) ∧ (arr.map (·.2)).toList.length = vs.length := by
  have pl : arr.toList.Perm (vs.zip vs) := by
    have e := Array.perm_iff_toList_perm.mp hp
    rwa [pairsOf_toList] at e
  have po : (arr.map (·.2)).toList.Perm vs := by
    rw [Array.toList_map]
    have z := pl.map Prod.snd
    rwa [List.map_snd_zip (Nat.le_refl _)] at z
  have hr2 : ∀ u ∈ (arr.map (·.2)).toList, ∃ a, u = Value.ref a := fun u hu => hr u (po.mem_iff.mp hu)
  obtain ⟨qs, q1, q2⟩ := P2.perm (po.symm.map backV) h
  refine ⟨qs, q1.symm, ?_, q2, hr2, po.length_eq⟩
  have hlen : qs.length = vs.length := by
    have := q2.len
    rw [List.length_map, po.length_eq] at this
    exact this.symm
  have key : ∀ (i : Nat) (q : List Nat), qs[i]? = some q → KK (G.tupKindC s.heap sh0) arr i = plO nm q := fun i q hq => by
    obtain ⟨v, hv, tv⟩ := q2.get hq
    rw [List.getElem?_map, Array.toList_map, List.getElem?_map, Array.getElem?_toList] at hv
    cases hk : arr[i]? with
    | none => rw [hk] at hv; cases hv
    | some kd =>
      rw [hk] at hv
      cases hv
      have hm : kd ∈ arr.toList := List.mem_of_getElem? (by rw [Array.getElem?_toList]; exact hk)
      obtain ⟨e1, e2⟩ := mem_zip_self (pl.mem_iff.mp hm)
      have tv : PlT nm H (backV kd.2) q := tv
      have := (key_pl I tv (by rw [← e1]; exact hr _ e2)).1
      unfold KK
      rw [hk]
      show (G.tupKeyC s.heap sh0 kd.1).getD _ = _
      rw [e1, this]; rfl
  rw [List.pairwise_iff_getElem]
  intro i j hi hj hij
  have := hs i j (Nat.le_of_lt hij) (by rw [pairsOf_size]; omega)
  rw [key i _ (List.getElem?_eq_getElem hi), key j _ (List.getElem?_eq_getElem hj)] at this
  exact this
end
section
variable {X : Cx}
/-- sorted(a list of places) -/
def rSortP (K : PySem.W.Frag) : List V → Hp → VK → Prop := fun vs H Q => ∃ (a : Addr) (us : List V) (nm : Str) (ps : List (List Nat)), vs = [V.ref a] ∧ SqL K H a us ∧ P2 (PlT nm H) us ps ∧
  ∀ (ys : List V) (qs : List (List Nat)) (p : Addr), qs.Perm ps → qs.Pairwise (leP nm) → P2 (PlT nm H) ys qs → H p = none → Q (.ref p) (upd H p (.lst ys))
theorem cr_sortP : CallR X (.builtin "sorted") (rSortP X.K) := by
  intro pins s σ H vs us Q I r h
  obtain ⟨a, xs, nm, ps, rfl, hs, ht, q⟩ := h
  obtain ⟨its, rv, hl, hz⟩ := I.list hs
  obtain ⟨u, rfl, ru⟩ := vals1 r
  obtain rfl : u = Value.ref a := ru
  have h2 := ht
  obtain ⟨e1, e2⟩ := refs_back rv fun x m => by
    obtain ⟨p, _, tp⟩ := h2.memL m
    obtain ⟨t, e, _⟩ := tp
    exact ⟨t, e⟩
  rw [e1] at h2
  obtain ⟨fs, hfs⟩ := tups_pl I h2 e2
  refine G.sorted_tups (shape := sh0) (fs := fs) hl.isList hfs (fun v hv => ?_) (by rw [← rv.length]; exact hz) fun st' hp hso _ => ?_
  · obtain ⟨p, _, tp⟩ := h2.memL (List.mem_map_of_mem (f := backV) hv)
    exact ⟨_, (key_pl I tp (e2 v hv)).1⟩
  · obtain ⟨qs, q1, q3, q4, q5, q6⟩ := srt_pl I h2 e2 hp hso
    obtain ⟨ep, he'⟩ := sortedAll_at s.heap its ((arrOf st').map (·.2))
    have hlen : (((arrOf st').map (·.2)).toList.map backV).length ≤ sizeLine := by
      rw [List.length_map, q6, ← rv.length]; exact hz
    refine ⟨.ref _, upd H (s.heap.objs.size + 1) (.lst (((arrOf st').map (·.2)).toList.map backV)), I.laid (t' := s.toks) (fun _ _ z => sortedAll_old z) (Nat.le_succ _) ⟨hlen, ((arrOf st').map (·.2)).toList, ep, vals_back q5, ?_⟩, rfl,
      q _ qs _ q1 q3 q4 (I.hok.fresh (Nat.le_succ _))⟩
    rw [Array.toArray_toList]; exact he'
/-- the keys of a dict of places -/
def KeysP (nm : Str) (kvs : List (List L2.Key × V)) (ps : List (List Nat)) : Prop := kvs.map (·.1) = ps.map (plK nm)
theorem p2_keys {nm : Str} {H : Hp} : ∀ {kvs : List (List L2.Key × V)} {ks : List (List L2.Key × Addr × Value)} {ps : List (List Nat)}, L2.KT H kvs ks → KeysP nm kvs ps → P2 (PlT nm H) ((ks.map fun x => Value.ref x.2.1).map backV) ps
  | [], _, ps, r, e => by
    cases r
    cases ps with
    | nil => exact .nil
    | cons _ _ => cases e
  | kv :: kvs, _, ps, r, e => by
    cases r with
    | cons h t =>
      cases ps with
      | nil => cases e
      | cons p ps =>
        unfold KeysP at e
        rw [List.map_cons, List.map_cons] at e
        obtain ⟨e1, e2⟩ := List.cons.inj e
        refine .cons ?_ (p2_keys t e2)
        have h2 := h.2.1
        rw [e1, plK_v] at h2
        exact ⟨_, rfl, h2⟩
/-- sorted(a dict of places) -/
def rSortDP : List V → Hp → VK → Prop := fun vs H Q => ∃ (a : Addr) (kvs : List (List L2.Key × V)) (nm : Str) (ps : List (List Nat)), vs = [V.ref a] ∧ H a = some (.dT kvs) ∧ KeysP nm kvs ps ∧
  ∀ (ys : List V) (qs : List (List Nat)) (p : Addr), qs.Perm ps → qs.Pairwise (leP nm) → P2 (PlT nm H) ys qs → H p = none → Q (.ref p) (upd H p (.lst ys))
theorem cr_sortDP (hcalm : X.calm = true) : CallR X (.builtin "sorted") rSortDP := by
  intro pins s σ H vs us Q I r h
  obtain ⟨d, kvs, nm, ps, rfl, hd, hk, q⟩ := h
  obtain ⟨u, rfl, ru⟩ := vals1 r
  obtain rfl : u = Value.ref d := ru
  obtain ⟨z, hs, ks, pr, o, es, ep, ho, hx, hdt, he, hn⟩ := (show ObjOk X.prog X.w H s.heap d (.dT kvs) from I.hok d _ hd)
  have l1 : es.size = ks.length := size_of_entries he
  have l2 : kvs.length = ks.length := Paired.length pr
  refine Calls.call_function_entry kind_sorted plain_sorted entry_sorted (args_sorted1 _) ?_
  unfold Builtin.«sorted»
  refine wpAny_bind (m := checkCount "sorted" 1 1 _) (wpAny_pure ?_)
  refine wpAny_bind (PySem.W.kdu_collect (A := X.A.in1) (kdl_raw hs hx hdt) (I.ok.hd hcalm) ho (by omega) fun h' tk acc kp it => ?_)
  have ea : acc.toList = ks.map fun x => Value.ref x.2.1 := by
    have hl : acc.toList.length = ks.length := by rw [Array.length_toList, it.1]; exact l1
    refine List.ext_getElem? fun j => ?_
    rw [List.getElem?_map]
    cases hj : acc.toList[j]? with
    | none =>
      have h1 := List.getElem?_eq_none_iff.mp hj
      rw [List.getElem?_eq_none (show ks.length ≤ j by omega)]; rfl
    | some v =>
      obtain ⟨en, hen, hv⟩ := it.2 j v (by rw [← Array.getElem?_toList]; exact hj)
      have qe := entry_at he j
      rw [hen] at qe
      cases hb : ks[j]? with
      | none => rw [hb] at qe; cases qe
      | some b =>
        rw [hb] at qe
        have e2 := Option.some.inj qe
        rw [hv, e2]; rfl
  have h2 : P2 (PlT nm H) (acc.toList.map backV) ps := by rw [ea]; exact p2_keys pr hk
  have e2 : ∀ u ∈ acc.toList, ∃ a, u = Value.ref a := fun u hu => by
    rw [ea] at hu
    obtain ⟨x, _, e⟩ := List.mem_map.mp hu
    exact ⟨_, e.symm⟩
  have hal : acc.toList.length ≤ sizeLine := by rw [ea, List.length_map]; omega
  have I1 : Inv X pins σ H { s with heap := h', toks := tk } := I.kept kp
  have I2 : Inv X pins σ H { s with heap := h'.push (seqObj "list" acc.toList.toArray 0), toks := tk } := I1.kept (t' := tk) fun b u e => Heap.get?_push_of_some _ e
  refine wpAny_bind (wpAny_newList ?_ hal)
  have hoL : (h'.push (seqObj "list" acc.toList.toArray 0)).get? h'.objs.size = some (seqObj "list" acc.toList.toArray 0) := Heap.get?_push_size _ rfl
  show wpAny _ _ _ _ _ { s with heap := h'.push (seqObj "list" acc.toList.toArray 0), toks := tk }
  obtain ⟨fs, hfs⟩ := tups_pl I2 h2 e2
  refine wpAny_bind (wpAny_holding (wpAny_call_entry slot_list_sort ⟨_, hoL, rfl⟩ entry_list_sort
    (G.list_sort_tups (s := { s with heap := h'.push (seqObj "list" acc.toList.toArray 0), toks := tk }) (shape := sh0) (fs := fs) hoL hfs (fun v hv => ?_) hal fun st' hp hso _ => ⟨_, rfl, ?_⟩) (args_list_sort _)))
  · obtain ⟨p, _, tp⟩ := h2.memL (List.mem_map_of_mem (f := backV) hv)
    exact ⟨_, (key_pl I2 tp (e2 v hv)).1⟩
  · obtain ⟨qs, q1, q3, q4, q5, q6⟩ := srt_pl I2 h2 e2 hp hso
    obtain ⟨e', he'⟩ := sortedHeap_at (vs := acc.toList) (out := (arrOf st').map (·.2)) hoL
    have hlen : (((arrOf st').map (·.2)).toList.map backV).length ≤ sizeLine := by
      rw [List.length_map, q6]; exact hal
    refine wpAny_pure ⟨_, rfl, .ref h'.objs.size, upd H h'.objs.size (.lst (((arrOf st').map (·.2)).toList.map backV)), I1.laid (t' := tk) (fun b u e => ?_) (Nat.le_refl _)
      (show ObjOk X.prog X.w _ _ _ (.lst (((arrOf st').map (·.2)).toList.map backV)) from ⟨hlen, ((arrOf st').map (·.2)).toList, e', vals_back q5, by rw [Array.toArray_toList]; exact he'⟩), rfl, q _ qs _ q1 q3 q4 (I1.hok.fresh (Nat.le_refl _))⟩
    have hb : b < h'.objs.size := Heap.lt_size e
    rw [sortedHeap_old (Nat.ne_of_lt hb) (by rw [size_push']; exact Nat.lt_succ_of_lt hb)]
    exact Heap.get?_push_of_some _ e
end
end Kk

namespace Kk
open PySem PySem.Spec PyProof.Rows L2
/-! as KSortT, each with a text of its own -/
def PlQ (H : Hp) (v : V) (q : Str × List Nat) : Prop := PlT q.1 H v q.2
def leQ (p q : Str × List Nat) : Prop := PyProof.Rows.lexLt PyProof.Rows.itemOrd (plO q.1 q.2) (plO p.1 p.2) = false
theorem plO_injQ {p q : Str × List Nat} (h : plO p.1 p.2 = plO q.1 q.2) : p = q := by
  obtain ⟨a, b⟩ := p
  obtain ⟨c, d⟩ := q
  have h1 := (List.cons.inj h).1
  have h2 := (List.cons.inj h).2
  have e2 := nat_map_inj (fun a b e => by have := Sum.inl.inj e; omega) h2
  have e1 : a = c := TL.ext_tl (Sum.inr.inj h1)
  simp only at e2
  rw [e1, e2]
theorem leQ_anti {p q : Str × List Nat} (h : leQ p q) (g : leQ q p) : p = q := plO_injQ ((PyProof.Rows.listOrd PyProof.Rows.itemOrd).total _ _ g h)
section
variable {X : Cx} {pins : List (Addr × Obj)} {σ : L2.St} {H : Hp} {s : Shared}
theorem tups_q (I : Inv X pins σ H s) : ∀ {us : List Value} {ps : List (Str × List Nat)}, P2 (PlQ H) (us.map backV) ps → (∀ u ∈ us, ∃ a, u = Value.ref a) → ∃ fs, PyProof.Rows.TupsOf s.heap sh0 us fs
  | [], _, _, _ => ⟨[], .nil⟩
  | u :: us, _, h, hr => by
    rw [List.map_cons] at h
    cases h with
    | cons a b =>
      obtain ⟨f, hf⟩ := (key_pl I a (hr u List.mem_cons_self)).2
      obtain ⟨fs, hfs⟩ := tups_q I b fun v hv => hr v (List.mem_cons_of_mem _ hv)
      exact ⟨f :: fs, .cons hf hfs⟩
/-- what a sort of places tells -/
theorem srt_q {vs : List Value} {ps : List (Str × List Nat)} {arr : Array Keyed} (I : Inv X pins σ H s) (h : P2 (PlQ H) (vs.map backV) ps) (hr : ∀ u ∈ vs, ∃ a, u = Value.ref a)
    (hp : arr.Perm (pairsOf vs)) (hs : SortedToK (G.tupKindC s.heap sh0) arr (pairsOf vs).size) :
    ∃ qs, qs.Perm ps ∧ qs.Pairwise leQ ∧ P2 (PlQ H) ((arr.map (·.2)).toList.map backV) qs ∧ (∀ u ∈ (arr.map (·.2)).toList, ∃ a, u = Value.ref a) ∧ (arr.map (·.2)).toList.length = vs.length := by
  have pl : arr.toList.Perm (vs.zip vs) := by
    have e := Array.perm_iff_toList_perm.mp hp
    rwa [pairsOf_toList] at e
  have po : (arr.map (·.2)).toList.Perm vs := by
    rw [Array.toList_map]
    have z := pl.map Prod.snd
    rwa [List.map_snd_zip (Nat.le_refl _)] at z
  have hr2 : ∀ u ∈ (arr.map (·.2)).toList, ∃ a, u = Value.ref a := fun u hu => hr u (po.mem_iff.mp hu)
  obtain ⟨qs, q1, q2⟩ := P2.perm (po.symm.map backV) h
  refine ⟨qs, q1.symm, ?_, q2, hr2, po.length_eq⟩
  have hlen : qs.length = vs.length := by
    have := q2.len
    rw [List.length_map, po.length_eq] at this
    exact this.symm
  have key : ∀ (i : Nat) (q : Str × List Nat), qs[i]? = some q → KK (G.tupKindC s.heap sh0) arr i = plO q.1 q.2 := fun i q hq => by
    obtain ⟨v, hv, tv⟩ := q2.get hq
    rw [List.getElem?_map, Array.toList_map, List.getElem?_map, Array.getElem?_toList] at hv
    cases hk : arr[i]? with
    | none => rw [hk] at hv; cases hv
    | some kd =>
      rw [hk] at hv
      cases hv
      have hm : kd ∈ arr.toList := List.mem_of_getElem? (by rw [Array.getElem?_toList]; exact hk)
      obtain ⟨e1, e2⟩ := mem_zip_self (pl.mem_iff.mp hm)
      have tv : PlT q.1 H (backV kd.2) q.2 := tv
      have := (key_pl I tv (by rw [← e1]; exact hr _ e2)).1
      unfold KK
      rw [hk]
      show (G.tupKeyC s.heap sh0 kd.1).getD _ = _
      rw [e1, this]; rfl
  rw [List.pairwise_iff_getElem]
  intro i j hi hj hij
  have := hs i j (Nat.le_of_lt hij) (by rw [pairsOf_size]; omega)
  rw [key i _ (List.getElem?_eq_getElem hi), key j _ (List.getElem?_eq_getElem hj)] at this
  exact this
end
section
variable {X : Cx}
/-- sorted(a list of places) -/
def rSortQ (K : PySem.W.Frag) : List V → Hp → VK → Prop := fun vs H Q => ∃ (a : Addr) (us : List V) (ps : List (Str × List Nat)), vs = [V.ref a] ∧ SqL K H a us ∧ P2 (PlQ H) us ps ∧
  ∀ (ys : List V) (qs : List (Str × List Nat)) (p : Addr), qs.Perm ps → qs.Pairwise leQ → P2 (PlQ H) ys qs → H p = none → Q (.ref p) (upd H p (.lst ys))
theorem cr_sortQ : CallR X (.builtin "sorted") (rSortQ X.K) := by
  intro pins s σ H vs us Q I r h
  obtain ⟨a, xs, ps, rfl, hs, ht, q⟩ := h
  obtain ⟨its, rv, hl, hz⟩ := I.list hs
  obtain ⟨u, rfl, ru⟩ := vals1 r
  obtain rfl : u = Value.ref a := ru
  have h2 := ht
  obtain ⟨e1, e2⟩ := refs_back rv fun x m => by
    obtain ⟨p, _, tp⟩ := h2.memL m
    obtain ⟨t, e, _⟩ := tp
    exact ⟨t, e⟩
  rw [e1] at h2
  obtain ⟨fs, hfs⟩ := tups_q I h2 e2
  refine G.sorted_tups (shape := sh0) (fs := fs) hl.isList hfs (fun v hv => ?_) (by rw [← rv.length]; exact hz) fun st' hp hso _ => ?_
  · obtain ⟨p, _, tp⟩ := h2.memL (List.mem_map_of_mem (f := backV) hv)
    exact ⟨_, (key_pl I tp (e2 v hv)).1⟩
  · obtain ⟨qs, q1, q3, q4, q5, q6⟩ := srt_q I h2 e2 hp hso
    obtain ⟨ep, he'⟩ := sortedAll_at s.heap its ((arrOf st').map (·.2))
    have hlen : (((arrOf st').map (·.2)).toList.map backV).length ≤ sizeLine := by
      rw [List.length_map, q6, ← rv.length]; exact hz
    refine ⟨.ref _, upd H (s.heap.objs.size + 1) (.lst (((arrOf st').map (·.2)).toList.map backV)), I.laid (t' := s.toks) (fun _ _ z => sortedAll_old z) (Nat.le_succ _) ⟨hlen, ((arrOf st').map (·.2)).toList, ep, vals_back q5, ?_⟩, rfl,
      q _ qs _ q1 q3 q4 (I.hok.fresh (Nat.le_succ _))⟩
    rw [Array.toArray_toList]; exact he'
/-- the keys of a dict of places -/
def KeysQ (kvs : List (List L2.Key × V)) (ps : List (Str × List Nat)) : Prop := kvs.map (·.1) = ps.map (fun q : Str × List Nat => plK q.1 q.2)
theorem p2_keysQ {H : Hp} : ∀ {kvs : List (List L2.Key × V)} {ks : List (List L2.Key × Addr × Value)} {ps : List (Str × List Nat)}, L2.KT H kvs ks → KeysQ kvs ps → P2 (PlQ H) ((ks.map fun x => Value.ref x.2.1).map backV) ps
  | [], _, ps, r, e => by
    cases r
    cases ps with
    | nil => exact .nil
    | cons _ _ => cases e
  | kv :: kvs, _, ps, r, e => by
    cases r with
    | cons h t =>
      cases ps with
      | nil => cases e
      | cons p ps =>
        unfold KeysQ at e
        rw [List.map_cons, List.map_cons] at e
        obtain ⟨e1, e2⟩ := List.cons.inj e
        refine .cons ?_ (p2_keysQ t e2)
        have h2 := h.2.1
        rw [e1, plK_v] at h2
        exact ⟨_, rfl, h2⟩
/-- sorted(a dict of places) -/
def rSortDQ : List V → Hp → VK → Prop := fun vs H Q => ∃ (a : Addr) (kvs : List (List L2.Key × V)) (ps : List (Str × List Nat)), vs = [V.ref a] ∧ H a = some (.dT kvs) ∧ KeysQ kvs ps ∧
  ∀ (ys : List V) (qs : List (Str × List Nat)) (p : Addr), qs.Perm ps → qs.Pairwise leQ → P2 (PlQ H) ys qs → H p = none → Q (.ref p) (upd H p (.lst ys))
theorem cr_sortDQ (hcalm : X.calm = true) : CallR X (.builtin "sorted") rSortDQ := by
  intro pins s σ H vs us Q I r h
  obtain ⟨d, kvs, ps, rfl, hd, hk, q⟩ := h
  obtain ⟨u, rfl, ru⟩ := vals1 r
  obtain rfl : u = Value.ref d := ru
  obtain ⟨z, hs, ks, pr, o, es, ep, ho, hx, hdt, he, hn⟩ := (show ObjOk X.prog X.w H s.heap d (.dT kvs) from I.hok d _ hd)
  have l1 : es.size = ks.length := size_of_entries he
  have l2 : kvs.length = ks.length := Paired.length pr
  refine Calls.call_function_entry kind_sorted plain_sorted entry_sorted (args_sorted1 _) ?_
  unfold Builtin.«sorted»
  refine wpAny_bind (m := checkCount "sorted" 1 1 _) (wpAny_pure ?_)
  refine wpAny_bind (PySem.W.kdu_collect (A := X.A.in1) (kdl_raw hs hx hdt) (I.ok.hd hcalm) ho (by omega) fun h' tk acc kp it => ?_)
  have ea : acc.toList = ks.map fun x => Value.ref x.2.1 := by
    have hl : acc.toList.length = ks.length := by rw [Array.length_toList, it.1]; exact l1
    refine List.ext_getElem? fun j => ?_
    rw [List.getElem?_map]
    cases hj : acc.toList[j]? with
    | none =>
      have h1 := List.getElem?_eq_none_iff.mp hj
      rw [List.getElem?_eq_none (show ks.length ≤ j by omega)]; rfl
    | some v =>
      obtain ⟨en, hen, hv⟩ := it.2 j v (by rw [← Array.getElem?_toList]; exact hj)
      have qe := entry_at he j
      rw [hen] at qe
      cases hb : ks[j]? with
      | none => rw [hb] at qe; cases qe
      | some b =>
        rw [hb] at qe
        have e2 := Option.some.inj qe
        rw [hv, e2]; rfl
  have h2 : P2 (PlQ H) (acc.toList.map backV) ps := by rw [ea]; exact p2_keysQ pr hk
  have e2 : ∀ u ∈ acc.toList, ∃ a, u = Value.ref a := fun u hu => by
    rw [ea] at hu
    obtain ⟨x, _, e⟩ := List.mem_map.mp hu
    exact ⟨_, e.symm⟩
  have hal : acc.toList.length ≤ sizeLine := by rw [ea, List.length_map]; omega
  have I1 : Inv X pins σ H { s with heap := h', toks := tk } := I.kept kp
  have I2 : Inv X pins σ H { s with heap := h'.push (seqObj "list" acc.toList.toArray 0), toks := tk } := I1.kept (t' := tk) fun b u e => Heap.get?_push_of_some _ e
  refine wpAny_bind (wpAny_newList ?_ hal)
  have hoL : (h'.push (seqObj "list" acc.toList.toArray 0)).get? h'.objs.size = some (seqObj "list" acc.toList.toArray 0) := Heap.get?_push_size _ rfl
  show wpAny _ _ _ _ _ { s with heap := h'.push (seqObj "list" acc.toList.toArray 0), toks := tk }
  obtain ⟨fs, hfs⟩ := tups_q I2 h2 e2
  refine wpAny_bind (wpAny_holding (wpAny_call_entry slot_list_sort ⟨_, hoL, rfl⟩ entry_list_sort
    (G.list_sort_tups (s := { s with heap := h'.push (seqObj "list" acc.toList.toArray 0), toks := tk }) (shape := sh0) (fs := fs) hoL hfs (fun v hv => ?_) hal fun st' hp hso _ => ⟨_, rfl, ?_⟩) (args_list_sort _)))
  · obtain ⟨p, _, tp⟩ := h2.memL (List.mem_map_of_mem (f := backV) hv)
    exact ⟨_, (key_pl I2 tp (e2 v hv)).1⟩
  · obtain ⟨qs, q1, q3, q4, q5, q6⟩ := srt_q I2 h2 e2 hp hso
    obtain ⟨e', he'⟩ := sortedHeap_at (vs := acc.toList) (out := (arrOf st').map (·.2)) hoL
    have hlen : (((arrOf st').map (·.2)).toList.map backV).length ≤ sizeLine := by
      rw [List.length_map, q6]; exact hal
    refine wpAny_pure ⟨_, rfl, .ref h'.objs.size, upd H h'.objs.size (.lst (((arrOf st').map (·.2)).toList.map backV)), I1.laid (t' := tk) (fun b u e => ?_) (Nat.le_refl _)
      (show ObjOk X.prog X.w _ _ _ (.lst (((arrOf st').map (·.2)).toList.map backV)) from ⟨hlen, ((arrOf st').map (·.2)).toList, e', vals_back q5, by rw [Array.toArray_toList]; exact he'⟩), rfl, q _ qs _ q1 q3 q4 (I1.hok.fresh (Nat.le_refl _))⟩
    have hb : b < h'.objs.size := Heap.lt_size e
    rw [sortedHeap_old (Nat.ne_of_lt hb) (by rw [size_push']; exact Nat.lt_succ_of_lt hb)]
    exact Heap.get?_push_of_some _ e
end
end Kk

namespace Kk
open PySem PySem.Spec PyProof.Rows L2
/-! d.get(k, x) of a dict of the written part; a statement that is never reached -/
def tKGet2 (K : PySem.W.Frag) (w : World) (td ty tx : TE) : TE := fun σ H Q => td σ H fun x H1 => ∃ a es n, x = .ref a ∧ KDict K w a es n ∧ ty σ H1 fun y H2 => tx σ H2 fun z H3 => ∃ (k : Str) (o : Option Value) (v : V), y = .str k ∧ PySem.W.nsIn K a k = some o ∧
  (∀ u, o = some u → RelV v u) ∧ (o = none → v = z) ∧ Q v H3
section
variable {X : Cx} {o e f : Expr} {apos cpos : Pos} {td ty tx : TE}
theorem pe_kget2 (ho : PE X o td) (he : PE X e ty) (hf : PE X f tx) (m : M2 X o "get" apos e f cpos) : PE X (.Call (.Attribute o "get" apos) [e, f] [] cpos) (tKGet2 X.K X.w td ty tx) := by
  refine ⟨fun pins s σ H Q I h => ?_⟩
  refine wpAny_Call_method m.base m.few m.line PySem.F.plainAttrs_dict PySem.F.slot_dict_get PySem.F.type_dict_get (thn (ho.run pins s σ H _ I h) fun u s1 ⟨x, H1, I1, rx, a, es, n, ex, D, q1⟩ => ?_)
  subst ex
  obtain rfl : u = Value.ref a := rx
  have hm1 := PySem.W.mapOf_K (prog := X.prog) (w := X.w) I1.kIn D.at_ D.lit
  refine ⟨hm1.typeIs, fun b q => ?_, ?_⟩
  · cases q
    exact ⟨_, I1.kIn _ _ D.at_, rfl⟩
  rw [m.trees]
  refine Calls.callWith_builtin rfl (Calls.evalArgs_plain (Calls.spliced_cons (thn (he.run pins s1 σ H1 _ I1 q1) fun iv s2 ⟨y, H2, I2, ry, q2⟩ =>
    Calls.spliced_cons (thn (hf.run pins s2 σ H2 _ I2 q2) fun fv s3 ⟨z, H3, I3, rz, k, ov, v, ey, hn, h1, h2, q3⟩ => Calls.spliced_nil ?_))))
  subst ey
  obtain ⟨t, rfl⟩ := (show ∃ t, iv = Value.str k t from ry)
  have hm := PySem.W.mapOf_K (prog := X.prog) (w := X.w) I3.kIn D.at_ D.lit
  refine call_meetsIn PySem.F.slot_dict_get hm.typeIs PySem.F.entry_dict_get (PySem.F.args_dict_get_3 _ _ _) (meets_dict_get_default (PySem.strKind X.prog X.w) a (strKind_is X.prog X.w k t) D.low fv) ⟨_, hm, ?_⟩
  refine ⟨v, H3, I3.tok _, ?_, q3⟩
  show RelV v ((findBy Value.isStrOf es k).getD fv)
  rw [PySem.W.find_K D.at_ hn]
  cases ov with
  | none => rw [h2 rfl]; exact rz
  | some u => exact h1 u rfl
end
theorem ps_nv {X : Cx} {st : Stmt} : PS X st (fun _ _ _ => False) := ⟨fun _ _ _ _ _ _ q => q.elim⟩
theorem PS.by {X : Cx} {st : Stmt} {t t' : TS} (h : PS X st t) (imp : ∀ D σ H, t' D σ H → t D σ H) : PS X st t' := ⟨fun pins s σ H D I q => h.run pins s σ H D I (imp D σ H q)⟩
theorem PE.by {X : Cx} {e : Expr} {t t' : TE} (h : PE X e t) (imp : ∀ σ H Q, t' σ H Q → t σ H Q) : PE X e t' := ⟨fun pins s σ H Q I q => h.run pins s σ H Q I (imp σ H Q q)⟩
end Kk

set_option maxHeartbeats 4000000
namespace Kk
open PySem PySem.Spec PyProof.Rows L2
/-! sets of texts -/
def kS (e : Int × Value) : Str := match e.2 with | .str x _ => x | _ => Str.empty
def GS (w : World) (e : Int × Value) : Prop := ∃ x tk, e.2 = Value.str x tk ∧ e.1 = hashStr w x
/-- the set at a: the texts of L -/
def SR (w : World) (h : Heap) (a : Addr) (L : List Str) (n : Nat) : Prop :=
  ∃ o es ep t, h.get? a = some o ∧ o.ExactSet ∧ o.data = .set es ep t ∧ (∀ e ∈ es.toList, GS w e) ∧ (es.toList.map kS).Nodup ∧ (∀ k, k ∈ L ↔ k ∈ es.toList.map kS) ∧
    es.size < scanBound ∧ t.fits es.size = true ∧ es.size = n ∧ Ris t.place.toList ∧ (w.params.followText "set-order" = true ∨ t.led = true)
theorem SR.at {w : World} {h h' : Heap} {a : Addr} {L : List Str} {n : Nat} (R : SR w h a L n) (k : ∀ o, h.get? a = some o → h'.get? a = some o) : SR w h' a L n := by
  obtain ⟨o, es, ep, t, ho, rest⟩ := R
  exact ⟨o, es, ep, t, k o ho, rest⟩
theorem sub_len : ∀ (l B : List Str), l.Nodup → (∀ x ∈ l, x ∈ B) → l.length ≤ B.length
  | [], _, _, _ => Nat.zero_le _
  | x :: l, B, nd, h => by
    obtain ⟨h1, h2⟩ := List.nodup_cons.mp nd
    have hx := h x (List.mem_cons_self ..)
    have ih := sub_len l (B.erase x) h2 fun y hy => by
      have ne : y ≠ x := fun z => h1 (z ▸ hy)
      exact (List.mem_erase_of_ne ne).mpr (h y (List.mem_cons_of_mem _ hy))
    rw [List.length_erase_of_mem hx] at ih
    have := List.length_pos_of_mem hx
    rw [List.length_cons]; omega
section
variable {P : Program} {w : World} {A : Around} {E : Value → Shared → Prop} {s : Shared} {a : Addr} {L : List Str} {n : Nat}
theorem gs_is {e : Int × Value} (g : GS w e) (k : Str) : (PySem.strKind P w).is k e.2 = true ↔ kS e = k := by
  obtain ⟨x, tk, h1, _⟩ := g
  have e1 : kS e = x := by unfold kS; rw [h1]
  rw [e1, h1]
  constructor
  · intro h
    obtain ⟨t, q⟩ := Value.isStrOf_shape (x := k) (v := .str x tk) h
    cases q; rfl
  · intro h; subst h; exact strKind_is P w x tk
theorem gs_elems {l : List (Int × Value)} (g : ∀ e ∈ l, GS w e) : ElemsOf (PySem.strKind P w) l := fun e he => by
  obtain ⟨x, tk, h1, h2⟩ := g e he
  exact ⟨⟨x, by rw [h1]; exact strKind_is P w x tk, h2⟩, by rw [h1]; rfl⟩
theorem gs_mem {l : List (Int × Value)} (g : ∀ e ∈ l, GS w e) (k : Str) : k ∈ l.map kS ↔ ∃ e ∈ l, (PySem.strKind P w).is k e.2 = true := by
  constructor
  · intro h
    obtain ⟨e, he, q⟩ := List.mem_map.mp h
    exact ⟨e, he, (gs_is (g e he) k).mpr q⟩
  · rintro ⟨e, he, q⟩
    exact List.mem_map.mpr ⟨e, he, (gs_is (g e he) k).mp q⟩
theorem sr_tail {gw : Bool → Sem Unit} (hgw : ∀ (b : Bool) (z : Shared) (Q' : Unit → Shared → Prop), Q' () z → wpAny (model P w) A (gw b) Q' E z)
    {o : Obj} {es : Array (Int × Value)} {ep : Nat} {t : SetTable} (ho : s.heap.get? a = some o) (hex : o.ExactSet) (hd : o.data = .set es ep t)
    {fs : Array (Int × Value)} {u : SetTable} {L' : List Str} (gf : ∀ e ∈ fs.toList, GS w e) (nf : (fs.toList.map kS).Nodup) (mf : ∀ k, k ∈ L' ↔ k ∈ fs.toList.map kS)
    (bf : fs.size < scanBound) (ff : u.fits fs.size = true) (rf : Ris u.place.toList) (lf : w.params.followText "set-order" = true ∨ u.led = true) {was : Bool} {R : Option Bool → Shared → Prop}
    (fin : ∀ h', Heap.SameBut a s.heap h' → SR w h' a L' fs.size → R (some true) { s with heap := h' }) :
    wpAny (model P w) A (do
        storeSet a fs u
        if (!was && u.tooFull) = true then do
            gw (relayAll u fs (SetTable.grown fs.size)).2.2
            storeSet a (relayAll u fs (SetTable.grown fs.size)).1 (relayAll u fs (SetTable.grown fs.size)).2.1
            pure (some true)
          else pure (some true)) R E s := by
  refine wpAny_bind (wpAny_storeSet_of ho hd ?_ (fits_of_scanBound bf))
  have at1 := store_at (es' := fs) (t' := u) ho hd
  have same1 := Heap.SameBut.update s.heap a (Obj.putSet fs u)
  split
  · have pm := relayAll_perm u fs (SetTable.grown fs.size)
    have f3 := relayAll_fits u fs (SetTable.grown fs.size)
    have r3 := relayAll_ris u fs (SetTable.grown fs.size)
    have l3 := relayAll_led u fs (SetTable.grown fs.size)
    generalize relayAll u fs (SetTable.grown fs.size) = zz at pm f3 r3 l3 ⊢
    obtain ⟨gs, v, gave⟩ := zz
    dsimp only at pm f3 r3 l3 ⊢
    have sz : gs.size = fs.size := by rw [← Array.length_toList, pm.length_eq, Array.length_toList]
    have b2 : gs.size < scanBound := by rw [sz]; exact bf
    refine wpAny_bind (hgw _ _ _ ?_)
    refine wpAny_bind (wpAny_storeSet_of at1 rfl ?_ (fits_of_scanBound b2))
    have at2 := store_at (es' := gs) (t' := v) at1 rfl
    refine wpAny_pure (fin _ (same1.trans (Heap.SameBut.update _ a _)) ?_)
    exact ⟨_, gs, _, v, at2, hex, rfl, fun e he => gf e (pm.mem_iff.mp he), (pm.map kS).nodup_iff.mpr nf, fun k => (mf k).trans (pm.map kS).mem_iff.symm, b2, f3, sz, r3, lf.imp id fun z => by rw [l3]; exact z⟩
  · exact wpAny_pure (fin _ same1 ⟨_, fs, _, u, at1, hex, rfl, gf, nf, mf, bf, ff, rfl, rf, lf⟩)
theorem sr_add {k : Str} {tk : Tok} {Q : Bool → Shared → Prop} (R : SR w s.heap a L n) (room : n + 1 < scanBound)
    (fin : ∀ (b : Bool) (m : Nat) h', Heap.SameBut a s.heap h' → SR w h' a (L ++ [k]) m → Q b { s with heap := h' }) :
    wpAny (model P w) A (setAddHashed a (.str k tk) ((PySem.strKind P w).hash k)) Q E s := by
  obtain ⟨o, es, ep, t, ho, hex, hd, g, nd, hm, hb, hf, hn, hr, hl⟩ := R
  have isk : (PySem.strKind P w).is k (.str k tk) = true := strKind_is P w k tk
  have scn : (Value.str k tk).scannable = true := rfl
  have els : ElemsOf (PySem.strKind P w) es.toList := gs_elems g
  unfold setAddHashed setAddHashedIn
  refine wpAny_holding (wpAny_bind (wpAny_setState_of ho hd hf ?_))
  dsimp only
  rw [byScan_of scn hb els]
  simp only [↓reduceIte]
  unfold setAddByScan
  refine wpAny_bind ?_
  refine wpAny_bind (wpAny_rule ?_)
  refine wpAny_bind (wpAny_setScan_of isk ho hd hf els ?_)
  cases look : List.findIdx? (fun e => (PySem.strKind P w).is k e.2) es.toList with
  | some j =>
    dsimp only
    obtain ⟨hj, pj, _⟩ := List.findIdx?_eq_some_iff_getElem.mp look
    have inS : k ∈ es.toList.map kS := (gs_mem (P := P) (w := w) g k).2 ⟨es.toList[j], List.getElem_mem hj, pj⟩
    refine wpAny_pure (wpAny_pure ?_)
    refine fin _ n s.heap (Heap.SameBut.refl a s.heap) ⟨o, es, ep, t, ho, hex, hd, g, nd, fun i => ?_, hb, hf, hn, hr, hl⟩
    rw [List.mem_append, hm i, List.mem_singleton]
    exact ⟨fun z => z.elim id fun e => e ▸ inS, .inl⟩
  | none =>
    dsimp only
    have new : k ∉ es.toList.map kS := fun z => by
      obtain ⟨e, he, q⟩ := (gs_mem (P := P) (w := w) g k).1 z
      have c := List.findIdx?_eq_none_iff.mp look e he
      rw [q] at c; cases c
    have gave : ∀ (b : Bool) {z : Shared} {Q' : Unit → Shared → Prop}, Q' () z → wpAny (model P w) A (match b with | true => rule "set.scan.the-table-gave-way" | false => pure ()) Q' E z :=
      fun b z Q' q => by cases b <;> first | exact wpAny_pure q | exact wpAny_rule q
    have pm := layNew_perm t es ((PySem.strKind P w).hash k) (.str k tk)
    have f1 := layNew_fits t es ((PySem.strKind P w).hash k) (.str k tk)
    have r1 := layNew_ris t es ((PySem.strKind P w).hash k) (.str k tk) hr
    have l1 := layNew_led t es ((PySem.strKind P w).hash k) (.str k tk)
    generalize layNew t es ((PySem.strKind P w).hash k) (.str k tk) = zz at pm f1 r1 l1 ⊢
    obtain ⟨fs, u, was, gv⟩ := zz
    dsimp only at pm f1 r1 l1 ⊢
    rw [Array.toList_push] at pm
    have pc : fs.toList.Perm (((PySem.strKind P w).hash k, Value.str k tk) :: es.toList) := pm.trans (List.perm_append_singleton _ _)
    have pk : (fs.toList.map kS).Perm (k :: es.toList.map kS) := pc.map kS
    have gf : ∀ e ∈ fs.toList, GS w e := fun e he => by
      rcases List.mem_cons.mp (pc.mem_iff.mp he) with z | z
      · rw [z]; exact ⟨k, tk, rfl, rfl⟩
      · exact g e z
    have nf : (fs.toList.map kS).Nodup := pk.nodup_iff.mpr (List.nodup_cons.mpr ⟨new, nd⟩)
    have mf : ∀ i, i ∈ L ++ [k] ↔ i ∈ fs.toList.map kS := fun i => by
      rw [List.mem_append, hm i, List.mem_singleton, pk.mem_iff, List.mem_cons]
      exact Or.comm
    have sz : fs.size = n + 1 := by rw [← Array.length_toList, pc.length_eq, List.length_cons, Array.length_toList, hn]
    have b1 : fs.size < scanBound := by rw [sz]; exact room
    have led : w.params.followText "set-order" = true ∨ u.led = true := hl.imp id fun z => by rw [l1]; exact z
    refine wpAny_bind (gave _ ?_)
    split
    · refine wpAny_bind ?_
      rw [hashByValue_scannable 8 scn]
      refine wpAny_pure ?_
      refine sr_tail ?_ ho hex hd gf nf mf b1 ?_ ?_ ?_ ?_
      · intro b z Q' q; cases b <;> first | exact wpAny_pure q | exact wpAny_rule q
      · first | (split <;> first | exact f1 | exact SetTable.fits_plain_off f1) | exact f1
      · first | (split <;> exact r1) | exact r1
      · first | (split <;> exact led) | exact led
      · intro h' sb r; dsimp only; exact wpAny_pure (fin _ _ h' sb r)
    · refine wpAny_bind (wpAny_pure ?_)
      simp only [↓reduceIte]
      refine sr_tail ?_ ho hex hd gf nf mf b1 f1 r1 led ?_
      · intro b z Q' q; cases b <;> first | exact wpAny_pure q | exact wpAny_rule q
      · intro h' sb r; dsimp only; exact wpAny_pure (fin _ _ h' sb r)
theorem sr_room {B : List Str} (R : SR w s.heap a L n) (hB : ∀ x ∈ L, x ∈ B) : n ≤ B.length := by
  obtain ⟨o, es, ep, t, ho, hex, hd, g, nd, hm, hb, hf, hn, hr, hl⟩ := R
  have := sub_len _ B nd fun x hx => hB x ((hm x).2 hx)
  rw [List.length_map, Array.length_toList, hn] at this
  exact this
end
section
variable {prog : Program} {w : World} {A : Around} {R : Result → Shared → Prop} {I : Addr} {fp wr : List Addr} {G : Array GenState → Array GenState → Prop} {m : Nat} {P : Nat → Value → Prop} {St : Nat → Shared → Prop}
theorem sr_loop (W : WalksS prog w A.in1 I fp wr G m P St) (S : Addr) (nS : S ∉ fp) (xs : List Str) (sz : xs.length = m) {B : List Str} (hB : ∀ x ∈ xs, x ∈ B) (hB64 : B.length < 64)
    (val : ∀ i v, P i v → ∃ x t, xs[i]? = some x ∧ v = .str x t) :
    ∀ (k i n : Nat) (s : Shared), m - i = k → i ≤ m → St i s → SR w s.heap S (xs.take i) n →
      (∀ s' n', Moved (S :: wr) G s s' → SR w s'.heap S xs n' → R (.ok (.ret .none)) s') →
      codeAny (model prog w) A (.builtin "set.update.loop" ⟨[.ref S, .ref I], []⟩) R s := by
  have nSw : S ∉ wr := fun h => nS (W.sub _ h)
  have sub : ∀ b ∈ wr, b ∈ S :: wr := fun b hb => List.mem_cons_of_mem _ hb
  intro k
  induction k with
  | zero =>
    intro i n s hk hi st hS hR
    obtain rfl : i = m := by omega
    refine codeAny_builtin PyProof.Rows.F.entry_set_update_loop ?_
    rw [Around.under_plainId PyProof.Rows.F.plain_set_update_loop _]
    show wpAny _ A.in1 (pyNext (.ref I) >>= _) _ _ s
    refine wpAny_bind (W.done s _ _ st fun s' hm => ?_)
    show wpAny _ A.in1 (ret Value.none) _ _ s'
    refine wpAny_pure (hR s' n (hm.mono sub) ?_)
    rw [← sz, List.take_length] at hS
    exact hS.at fun o ho => hm.heap S _ nSw ho
  | succ k ih =>
    intro i n s hk hi st hS hR
    have lt : i < m := by omega
    refine codeAny_builtin PyProof.Rows.F.entry_set_update_loop ?_
    rw [Around.under_plainId PyProof.Rows.F.plain_set_update_loop _]
    show wpAny _ A.in1 (pyNext (.ref I) >>= _) _ _ s
    refine wpAny_bind (W.item i s _ _ lt st fun v s' hP st' hm => ?_)
    obtain ⟨x, t, hx, rfl⟩ := val i v hP
    have hS' : SR w s'.heap S (xs.take i) n := hS.at fun o ho => hm.heap S _ nSw ho
    show wpAny _ A.in1 (holding [Value.str x t] (setAdd S (.str x t)) >>= _) _ _ s'
    refine wpAny_bind (wpAny_holding ?_)
    unfold setAdd
    refine wpAny_holding ?_
    refine wpAny_bind ((PySem.strKind prog w).pyHash (k := x) (strKind_is _ _ _ _) ?_)
    have room : n + 1 < scanBound := by
      have := sr_room hS' (B := B) fun y hy => hB y (List.mem_of_mem_take hy)
      unfold scanBound; omega
    refine sr_add (s := { s' with toks := s'.toks + 1 }) hS' room fun b n2 h' sb r => ?_
    have tk : xs.take (i + 1) = xs.take i ++ [x] := by rw [List.take_add_one, hx]; rfl
    rw [← tk] at r
    refine wpAny_pure ⟨plainId_quiet PyProof.Rows.F.plain_set_update_loop _, ih (i + 1) n2 _ (by omega) lt (W.frame _ s' _ _ st' (Nat.le_succ _) fun b hb o e => ?_) r fun s'' n3 hm'' hS'' => ?_⟩
    · rw [sb.2 b (fun z : b = S => nS (by rw [← z]; exact hb))]; exact e
    · refine hR s'' n3 (Moved.trans W.gtrans ((hm.mono sub).then_heap (Nat.le_succ _) fun b o hb e => ?_) hm'') hS''
      rw [sb.2 b (fun z : b = S => hb (by rw [z]; exact List.mem_cons_self))]; exact e
end
end Kk

set_option maxHeartbeats 4000000
namespace Kk
open PySem PySem.Spec PyProof.Rows L2
abbrev newSet (w : World) : Obj := { cls := .type "set", dict := none, data := .set #[] 0 (.fresh 0 0 (!w.params.followText "set-order")) }
theorem sr_fresh {h : Heap} (w : World) : SR w (h.push { cls := .type "set", dict := none, data := .set #[] 0 (.fresh 0 0 (!w.params.followText "set-order")) }) h.objs.size [] 0 :=
  ⟨_, #[], 0, _, Heap.get?_push_size _ rfl, ⟨rfl, rfl, rfl⟩, rfl, (fun e he => by simp at he), (by simp), (fun k => by simp), (by decide), (by rfl), rfl, List.Pairwise.nil, by
    show _ ∨ (!w.params.followText "set-order") = true
    cases w.params.followText "set-order"
    · exact .inr rfl
    · exact .inl rfl⟩
section
variable {P : Program} {w : World} {A : Around} {E : Value → Shared → Prop} {s : Shared} {a : Addr} {L : List Str} {n : Nat}
/-- set(xs), xs a list of texts -/
theorem set_of_strs {l : Addr} {items : Array Value} {xs B : List Str} {Q : Value → Shared → Prop} (hh : A.handled = none) (hl : s.heap.IsList l items) (sz0 : xs.length = items.size)
    (val : ∀ (i : Nat) (v : Value), items[i]? = some v → ∃ x t, xs[i]? = some x ∧ v = .str x t) (hB : ∀ x ∈ xs, x ∈ B) (hB64 : B.length < 64)
    (fin : ∀ (h' : Heap) (tk n : Nat), SR w h' s.heap.objs.size xs n → (∀ b o, s.heap.get? b = some o → h'.get? b = some o) → Q (.ref s.heap.objs.size) { s with heap := h', toks := tk }) :
    wpAny (model P w) A (call (.type "set") [.ref l]) Q E s := by
  obtain ⟨c, tl, mro⟩ := PySem.F.called_set.mro
  have made := PySem.F.called_set.made
  have issub := PySem.F.called_set.sub
  refine wpAny_call (codeAny_of_tree ?_)
  show wpAny _ _ (callAny (.type "set") _) _ _ _
  refine wpAny_pure ⟨Code.quiet_builtin _ (by decide +kernel), codeAny_builtin PySem.F.entry_type_call ?_⟩
  rw [Around.under_plain (weight_type_call_type "set" [.ref l] []) rfl]
  have q1 := PySem.F.called_set.notType
  have q2 := PySem.F.called_set.canCreate
  have q3 := PySem.F.typeCall_set_1 (.ref l)
  repeat (any_goals (first | assumption | wp_step))
  refine codeAny_mono (code_set_led1 (.ref l) (E := E) (Q₁ := fun v z => v = .ref s.heap.objs.size ∧ z = { s with heap := s.heap.push { cls := .type "set", dict := none, data := .set #[] 0 (.fresh 0 0 (!w.params.followText "set-order")) } }) ⟨rfl, rfl⟩) fun r z hr => ?_
  cases r with
  | error e => exact hr
  | ok fl =>
    cases fl with
    | ret v =>
      obtain ⟨rfl, rfl⟩ := hr
      have atS : (s.heap.push (newSet w)).get? s.heap.objs.size = some (newSet w) := Heap.get?_push_size _ rfl
      have isS : Shared.TypeIs { s with heap := s.heap.push (newSet w) } (.ref s.heap.objs.size) "set" := ⟨_, atS, rfl⟩
      have ini := PySem.F.called_set.init.lookup
      have bnd := PySem.F.called_set.init.bind (.ref s.heap.objs.size)
      repeat (any_goals (first | assumption | wp_step))
      refine codeAny_mono (codeAny_call_builtin (R := wants (fun r z2 => r = .none ∧ ∃ h' tk n, z2 = { s with heap := h', toks := tk } ∧ SR w h' s.heap.objs.size xs n ∧ (∀ b o, s.heap.get? b = some o → h'.get? b = some o)) E)
        PySem.F.called_set.init.plain PySem.F.entry_set_init (check_set_init_1 isS ?_)) fun r2 z2 hr2 => ?_
      · obtain ⟨ol, hol, cl, nl, dl⟩ := hl
        obtain ⟨oc, od, odt, osl⟩ := ol
        simp only at cl dl
        subst cl; subst dl
        have hol2 : (s.heap.push (newSet w)).get? l = some { cls := .type "list", dict := od, data := .seq items nl, slots := osl } := Heap.get?_push_of_some _ hol
        have s1 := PySem.F.sub_list_set
        have s2 := PySem.F.sub_list_frozenset
        have s3 : (Value.type "list" == Value.type "dict") = false := by decide
        have isL : (s.heap.push (newSet w)).IsList l items := ⟨_, hol2, rfl, nl, rfl⟩
        unfold Builtin.«set.__init__» noKeywords Builtin.Frozenset.updateFrom
        generalize hold : pyIter = PI
        wp_walk
        subst hold
        refine wpAny_pyIter_list isL ?_
        refine wpAny_bind (wpAny_runValue ?_)
        have lt1 : l < s.heap.objs.size := Heap.lt_size hol
        have hh3 : A.in1.in1.in1.handled = none := by simp [hh]
        have neI : l ≠ (s.heap.push (newSet w)).objs.size := by rw [Heap.size_push]; exact Nat.ne_of_lt (Nat.lt_succ_of_lt lt1)
        have nS : s.heap.objs.size ∉ [(s.heap.push (newSet w)).objs.size, l] := by
          rw [Heap.size_push]; simp only [List.mem_cons, List.mem_singleton, List.not_mem_nil, or_false, not_or]
          exact ⟨Nat.ne_of_lt (Nat.lt_succ_self _), Nat.ne_of_gt lt1⟩
        refine sr_loop ((Walks.list hh3 _ l neI items).toS) s.heap.objs.size nS xs sz0 hB hB64 val (items.size - 0) 0 0 _ (by omega) (Nat.zero_le _)
          ⟨⟨_, Heap.get?_push_size _ rfl, rfl, rfl⟩, (isL.push _)⟩ ?z0 ?zR
        case z0 =>
          have f := sr_fresh (h := s.heap) w
          exact f.at fun o ho => Heap.get?_push_of_some _ ho
        case zR =>
          intro z' n' mv hS'
          obtain ⟨h', g', d', tk', os'⟩ := z'
          have eg : g' = s.gens := mv.gens
          have ed : d' = s.drawn := mv.drawn
          have eo' : os' = s.os := mv.os
          subst eg; subst ed; subst eo'
          show wpAny _ _ _ _ _ _
          refine wpAny_pure ?_
          show wpAny _ _ (ret Value.none) _ _ _
          refine wpAny_pure ⟨rfl, h', tk', n', rfl, hS', fun b o e => ?_⟩
          have lb := Heap.lt_size e
          have n1 : b ≠ s.heap.objs.size := Nat.ne_of_lt lb
          have n2 : b ≠ (s.heap.push (newSet w)).objs.size := by rw [Heap.size_push]; exact Nat.ne_of_lt (Nat.lt_succ_of_lt lb)
          exact mv.heap b o (by simp only [List.mem_cons, List.mem_singleton, List.not_mem_nil, or_false, not_or]; exact ⟨n1, n2⟩) (Heap.get?_push_of_some _ (Heap.get?_push_of_some _ e))
      · cases r2 with
        | error e => exact hr2
        | ok fl2 =>
          cases fl2 with
          | ret r =>
            obtain ⟨rfl, h', tk, n', rfl, hS', kp⟩ := hr2
            repeat (any_goals (first | assumption | wp_step))
            exact fin _ _ _ hS' kp
          | _ => exact hr2.elim
    | _ => exact hr.elim
theorem strs_of_vals : ∀ (l : List Value), (∀ v ∈ l, ∃ x tk, v = Value.str x tk) → StrsAre l (l.map fun v => kS (0, v))
  | [], _ => .nil
  | v :: l, h => by
    obtain ⟨x, tk, rfl⟩ := h v List.mem_cons_self
    exact .cons x tk (strs_of_vals l fun u hu => h u (List.mem_cons_of_mem _ hu))
/-- sorted(set), a set of texts -/
theorem sorted_of_set {B : List Str} {Q : Value → Shared → Prop} (R : SR w s.heap a L n) (hh : A.handled = none) (hB : ∀ x ∈ L, x ∈ B) (hB64 : B.length < 64)
    (fin : ∀ s' p (out : Array Value) (c : Nat) (ys : List Str), (∀ b o, s.heap.get? b = some o → s'.heap.get? b = some o) → s'.gens = s.gens → s'.os = s.os → s.heap.objs.size ≤ p →
      s'.heap.get? p = some (seqObj "list" out c) → StrsAre out.toList ys → sortedS ys = true → ys.Nodup → (∀ k, k ∈ ys ↔ k ∈ L) → ys.length < 64 → Q (.ref p) s') :
    wpAny (model P w) A (call (.builtin "sorted") [.ref a]) Q E s := by
  have n64 : n < 64 := Nat.lt_of_le_of_lt (sr_room R hB) hB64
  obtain ⟨o, es, ep, t, ho, hex, hd, g, nd, hm, hb, hf, hn, hr, hl⟩ := R
  refine Calls.call_function_entry kind_sorted plain_sorted entry_sorted (args_sorted1 _) ?_
  unfold Builtin.«sorted»
  refine wpAny_bind (m := checkCount "sorted" 1 1 _) (wpAny_pure ?_)
  refine wpAny_bind (collect_set (A := A.in1) hh ⟨o, ho, hex.1, hd⟩ hf hb hr hl fun z vs k1 hz g1 o1 pm => ?_)
  have vl : vs.length = n := by rw [pm.length_eq, List.length_map, Array.length_toList]; exact hn
  have SA : StrsAre vs (vs.map fun v => kS (0, v)) := strs_of_vals vs fun v hv => by
    obtain ⟨e, he, q⟩ := List.mem_map.mp (pm.mem_iff.mp hv)
    obtain ⟨x, tk, h1, _⟩ := g e he
    exact ⟨x, tk, by rw [← q]; exact h1⟩
  have pk : (vs.map fun v => kS (0, v)).Perm (es.toList.map kS) := by
    have q := pm.map fun v => kS (0, v)
    rw [List.map_map] at q
    exact q
  refine wpAny_bind (wpAny_newList ?_ (by rw [vl, sizeLine_eq]; omega))
  have oL : (z.heap.push (seqObj "list" vs.toArray 0)).get? z.heap.objs.size = some (seqObj "list" vs.toArray 0) := Heap.get?_push_size _ rfl
  refine wpAny_bind (wpAny_holding (wpAny_call_entry slot_list_sort ⟨_, oL, rfl⟩ entry_list_sort
    (list_sort_treeK strKind_oneLt oL SA.keysOf (fun v₁ v₂ rest e => keyKind_strs (by rw [← e]; exact SA)) (by rw [vl]; exact n64) fun st' hp hs => ⟨_, rfl, ?_⟩) (args_list_sort _)))
  obtain ⟨ys, a1, a2, a3⟩ := sorted_out_str SA hp hs
  obtain ⟨c, hc⟩ := sortedHeap_at (vs := vs) (out := (arrOf st').map (·.2)) oL
  have pn : ys.Perm (es.toList.map kS) := a2.trans pk
  refine wpAny_pure ⟨_, rfl, fin _ z.heap.objs.size _ c ys (fun b u e => ?_) g1 o1 hz hc a1 a3 (pn.nodup_iff.mpr nd) (fun k => by rw [pn.mem_iff, ← hm k]) ?_⟩
  · have q := k1 b u e
    have lt := Heap.lt_size q
    show (sortedHeap (z.heap.push (seqObj "list" vs.toArray 0)) z.heap.objs.size vs _).get? b = some u
    rw [sortedHeap_old (Nat.ne_of_lt lt) (by rw [size_push']; exact Nat.lt_succ_of_lt lt)]
    exact Heap.get?_push_of_some _ q
  · rw [pn.length_eq, List.length_map, Array.length_toList, hn]; exact n64
end
/-- a set of texts, tracked -/
def SetS (w : World) (a : Addr) (L : List Str) : HO := .ext fun h => ∃ n, SR w h a L n
section
variable {X : Cx}
theorem setS_ok {P : Program} {w : World} {H : Hp} {h : Heap} {a : Addr} {L : List Str} {n : Nat} (R : SR w h a L n) : ObjOk P w H h a (SetS w a L) := by
  refine ⟨⟨n, R⟩, ?_, fun h1 h2 ⟨m, R1⟩ k => ⟨m, R1.at k⟩⟩
  obtain ⟨o, es, ep, t, ho, _⟩ := R
  exact ⟨o, ho⟩
def rSetS (K : PySem.W.Frag) (w : World) : List V → Hp → VK → Prop := fun vs H Q => ∃ (l : Addr) (xs B : List Str), vs = [.ref l] ∧ SqL K H l (xs.map V.str) ∧ (∀ x ∈ xs, x ∈ B) ∧ B.length < 64 ∧ ∀ p, H p = none → Q (.ref p) (upd H p (SetS w p xs))
theorem call_setS (hc : X.calm = true) : CallR X (.type "set") (rSetS X.K X.w) := by
  intro pins s σ H vs us Q I r h
  obtain ⟨l, xs, B, rfl, hl, hB, hB64, q⟩ := h
  rw [Vals.ref1 r]
  obtain ⟨its, rv, pl, hz⟩ := I.list hl
  have fr : H s.heap.objs.size = none := I.hok.fresh (Nat.le_refl _)
  have hlen : xs.length = its.toArray.size := by
    have := rv.length
    rw [List.length_map] at this
    simpa using this
  refine set_of_strs (P := X.prog) (w := X.w) (I.ok.hd hc) pl.isList hlen (fun i v hv => ?_) hB hB64 fun h' tk n R kp => ?_
  · have hv2 : its[i]? = some v := by simpa using hv
    have hi : i < xs.length := by rw [hlen]; simpa using (List.getElem?_eq_some_iff.mp hv2).1
    have hx : (xs.map V.str)[i]? = some (.str xs[i]) := by rw [List.getElem?_map, List.getElem?_eq_getElem hi]; rfl
    obtain ⟨u, hu, ru⟩ := rv.get hx
    rw [hv2] at hu; cases hu
    obtain ⟨t, e⟩ := (show ∃ t, v = Value.str xs[i] t from ru)
    exact ⟨xs[i], t, List.getElem?_eq_getElem hi, e⟩
  · exact ⟨.ref s.heap.objs.size, upd H s.heap.objs.size (SetS X.w s.heap.objs.size xs), I.laid (t' := tk) kp (Nat.le_refl _) (setS_ok R), rfl, q _ fr⟩
def rSortSetS (w : World) : List V → Hp → VK → Prop := fun vs H Q => ∃ (a : Addr) (L B : List Str), vs = [.ref a] ∧ H a = some (SetS w a L) ∧ (∀ x ∈ L, x ∈ B) ∧ B.length < 64 ∧
  ∀ (ys : List Str) (p : Addr), sortedS ys = true → ys.Nodup → (∀ k, k ∈ ys ↔ k ∈ L) → H p = none → Q (.ref p) (upd H p (.lst (ys.map V.str)))
theorem call_sortSetS (hc : X.calm = true) : CallR X (.builtin "sorted") (rSortSetS X.w) := by
  intro pins s σ H vs us Q I r h
  obtain ⟨a, L, B, rfl, ha, hB, hB64, q⟩ := h
  obtain ⟨n, R⟩ := (I.hok a _ ha).1
  rw [Vals.ref1 r]
  refine sorted_of_set (P := X.prog) R (I.ok.hd hc) hB hB64 fun s' p out c ys k g o hp hg hS h1 h2 h3 h4 => ?_
  have hlen : (ys.map V.str).length ≤ sizeLine := by rw [List.length_map, sizeLine_eq]; omega
  have fr : H p = none := I.hok.fresh hp
  have J : Inv X pins σ (upd H p (.lst (ys.map V.str))) { s with heap := s'.heap, gens := s'.gens, drawn := s'.drawn, toks := s'.toks } :=
    I.call (ch := []) (Un.laid k hp fr) (I.hok.laid k hp ⟨hlen, out.toList, c, vals_of_strs hS, hg⟩) (by rw [g]; exact I.bare) (fun _ z => nomatch z)
  have e : s' = { s with heap := s'.heap, gens := s'.gens, drawn := s'.drawn, toks := s'.toks } := by
    cases s'; cases s; cases o; rfl
  rw [e]
  exact ⟨.ref p, _, J, rfl, q ys p h1 h2 h3 fr⟩
end
end Kk

set_option maxHeartbeats 4000000
namespace Kk
open PySem PySem.Spec PyProof.Rows L2
section
variable {P : Program} {w : World} {A : Around} {E : Value → Shared → Prop} {s : Shared}
/-- sorted(xs), xs a tuple or a list of texts -/
theorem sorted_of_seqS {l : Addr} {T : String} {o : Obj} {items : Array Value} {n0 : Nat} {xs : List Str} {Q : Value → Shared → Prop} (hT : T = "list" ∨ T = "tuple") (ho : s.heap.get? l = some o) (hc : o.cls = .type T) (hd : o.data = .seq items n0) (hS : StrsAre items.toList xs) (h64 : items.size < 64)
    (fin : ∀ (h1 h2 : Heap) (out : Array Value) (c : Nat) (ys : List Str), (∀ b o, s.heap.get? b = some o → h1.get? b = some o) → (∀ b o, h1.get? b = some o → h2.get? b = some o) →
      h2.get? h1.objs.size = some (seqObj "list" out c) → StrsAre out.toList ys → sortedS ys = true → ys.Perm xs → Q (.ref h1.objs.size) { s with heap := h2 }) :
    wpAny (model P w) A (call (.builtin "sorted") [.ref l]) Q E s := by
  refine Calls.call_function_entry kind_sorted plain_sorted entry_sorted (args_sorted1 _) ?_
  unfold Builtin.«sorted»
  refine wpAny_bind (m := checkCount "sorted" 1 1 _) (wpAny_pure ?_)
  have hl : items.toList.length < 64 := by rw [Array.length_toList]; exact h64
  refine wpAny_bind (wpAny_collect_seq (A := A.in1) l hT ho hc hd (fun h' k1 => ?_) (by rw [sizeLine_eq]; omega))
  refine wpAny_bind (wpAny_newList ?_ (by rw [sizeLine_eq]; omega))
  have oL : (h'.push (seqObj "list" items.toList.toArray 0)).get? h'.objs.size = some (seqObj "list" items.toList.toArray 0) := Heap.get?_push_size _ rfl
  refine wpAny_bind (wpAny_holding (wpAny_call_entry slot_list_sort ⟨_, oL, rfl⟩ entry_list_sort
    (list_sort_treeK strKind_oneLt oL hS.keysOf (fun v₁ v₂ rest e => keyKind_strs (by rw [← e]; exact hS)) hl fun st' hp hs => ⟨_, rfl, ?_⟩) (args_list_sort _)))
  obtain ⟨ys, a1, a2, a3⟩ := sorted_out_str hS hp hs
  obtain ⟨c, hc2⟩ := sortedHeap_at (vs := items.toList) (out := (arrOf st').map (·.2)) oL
  refine wpAny_pure ⟨_, rfl, fin h' _ _ c ys k1 (fun b u q => ?_) hc2 a1 a3 a2⟩
  have lt := Heap.lt_size q
  show (sortedHeap (h'.push (seqObj "list" items.toList.toArray 0)) h'.objs.size items.toList _).get? b = some u
  rw [sortedHeap_old (Nat.ne_of_lt lt) (by rw [size_push']; exact Nat.lt_succ_of_lt lt)]
  exact Heap.get?_push_of_some _ q
end
section
variable {X : Cx}
theorem strs_vals : ∀ {xs : List Str} {us : List Value}, Vals (xs.map V.str) us → StrsAre us xs
  | [], _, h => by cases h; exact .nil
  | x :: xs, _, h => by
    cases h with
    | cons a b =>
      obtain ⟨t, rfl⟩ := (show ∃ t, _ = Value.str x t from a)
      exact .cons x t (strs_vals b)
def rSortTS (K : PySem.W.Frag) : List V → Hp → VK → Prop := fun vs H Q => ∃ (l : Addr) (xs : List Str), vs = [.ref l] ∧ (SqT K H l (xs.map V.str) ∨ SqL K H l (xs.map V.str)) ∧ xs.length < 64 ∧ ∀ ys p, ys.Perm xs → sortedS ys = true → H p = none → Q (.ref p) (upd H p (.lst (ys.map V.str)))
theorem cr_sortTS {K : PySem.W.Frag} (hK : X.K = K) : CallR X (.builtin "sorted") (rSortTS K) := by
  subst hK
  intro pins s σ H vs us Q I r h
  obtain ⟨l, xs, rfl, hs, h64, q⟩ := h
  rw [Vals.ref1 r]
  have key : ∃ (T : String) (o : Obj) (its : List Value) (n0 : Nat), (T = "list" ∨ T = "tuple") ∧ s.heap.get? l = some o ∧ o.cls = .type T ∧ o.data = .seq its.toArray n0 ∧ Vals (xs.map V.str) its := by
    rcases hs with hs | hs
    · obtain ⟨its, rv, ⟨o, ho, hc, n, hd⟩, hz⟩ := I.tuple hs
      exact ⟨_, o, its, n, .inr rfl, ho, hc, hd, rv⟩
    · obtain ⟨its, rv, hl, hz⟩ := I.list hs
      obtain ⟨o, ho, hc, n, hd⟩ := hl.isList
      exact ⟨_, o, its, n, .inl rfl, ho, hc, hd, rv⟩
  obtain ⟨T, o, its, n0, hT, ho, hc, hd, rv⟩ := key
  have hl : its.length = xs.length := by have := rv.length; rw [List.length_map] at this; exact this.symm
  refine sorted_of_seqS (P := X.prog) hT ho hc hd (strs_vals rv) (by rw [List.size_toArray]; omega) fun h1 h2 out c ys ka kb hg hS e1 e2 => ?_
  have hlen : (ys.map V.str).length ≤ sizeLine := by rw [List.length_map, e2.length_eq, sizeLine_eq]; omega
  have I1 : Inv X pins σ H { s with heap := h1 } := I.kept (t' := s.toks) ka
  have J : Inv X pins σ (upd H h1.objs.size (.lst (ys.map V.str))) { s with heap := h2 } :=
    I1.laid (t' := s.toks) kb (Nat.le_refl _) (show ObjOk X.prog X.w _ _ _ (.lst (ys.map V.str)) from ⟨hlen, out.toList, c, vals_of_strs hS, hg⟩)
  exact ⟨.ref h1.objs.size, _, J, rfl, q ys _ e2 e1 (I1.hok.fresh (Nat.le_refl _))⟩
end
end Kk

set_option maxHeartbeats 4000000
namespace Kk
open PySem PySem.Spec PyProof.Rows L2
section
variable {P : Program} {w : World} {A : Around} {E : Value → Shared → Prop} {s : Shared} {a : Addr} {L : List Str} {n : Nat}
/-- set(xs), xs a tuple of texts -/
theorem set_of_strsT {l : Addr} {items : Array Value} {xs B : List Str} {Q : Value → Shared → Prop} (hh : A.handled = none) (hl : s.heap.IsTuple l items) (sz0 : xs.length = items.size)
    (val : ∀ (i : Nat) (v : Value), items[i]? = some v → ∃ x t, xs[i]? = some x ∧ v = .str x t) (hB : ∀ x ∈ xs, x ∈ B) (hB64 : B.length < 64)
    (fin : ∀ (h' : Heap) (tk n : Nat), SR w h' s.heap.objs.size xs n → (∀ b o, s.heap.get? b = some o → h'.get? b = some o) → Q (.ref s.heap.objs.size) { s with heap := h', toks := tk }) :
    wpAny (model P w) A (call (.type "set") [.ref l]) Q E s := by
  obtain ⟨c, tl, mro⟩ := PySem.F.called_set.mro
  have made := PySem.F.called_set.made
  have issub := PySem.F.called_set.sub
  refine wpAny_call (codeAny_of_tree ?_)
  show wpAny _ _ (callAny (.type "set") _) _ _ _
  refine wpAny_pure ⟨Code.quiet_builtin _ (by decide +kernel), codeAny_builtin PySem.F.entry_type_call ?_⟩
  rw [Around.under_plain (weight_type_call_type "set" [.ref l] []) rfl]
  have q1 := PySem.F.called_set.notType
  have q2 := PySem.F.called_set.canCreate
  have q3 := PySem.F.typeCall_set_1 (.ref l)
  repeat (any_goals (first | assumption | wp_step))
  refine codeAny_mono (code_set_led1 (.ref l) (E := E) (Q₁ := fun v z => v = .ref s.heap.objs.size ∧ z = { s with heap := s.heap.push { cls := .type "set", dict := none, data := .set #[] 0 (.fresh 0 0 (!w.params.followText "set-order")) } }) ⟨rfl, rfl⟩) fun r z hr => ?_
  cases r with
  | error e => exact hr
  | ok fl =>
    cases fl with
    | ret v =>
      obtain ⟨rfl, rfl⟩ := hr
      have atS : (s.heap.push (newSet w)).get? s.heap.objs.size = some (newSet w) := Heap.get?_push_size _ rfl
      have isS : Shared.TypeIs { s with heap := s.heap.push (newSet w) } (.ref s.heap.objs.size) "set" := ⟨_, atS, rfl⟩
      have ini := PySem.F.called_set.init.lookup
      have bnd := PySem.F.called_set.init.bind (.ref s.heap.objs.size)
      repeat (any_goals (first | assumption | wp_step))
      refine codeAny_mono (codeAny_call_builtin (R := wants (fun r z2 => r = .none ∧ ∃ h' tk n, z2 = { s with heap := h', toks := tk } ∧ SR w h' s.heap.objs.size xs n ∧ (∀ b o, s.heap.get? b = some o → h'.get? b = some o)) E)
        PySem.F.called_set.init.plain PySem.F.entry_set_init (check_set_init_1 isS ?_)) fun r2 z2 hr2 => ?_
      · obtain ⟨ol, hol, cl, nl, dl⟩ := hl
        obtain ⟨oc, od, odt, osl⟩ := ol
        simp only at cl dl
        subst cl; subst dl
        have hol2 : (s.heap.push (newSet w)).get? l = some { cls := .type "tuple", dict := od, data := .seq items nl, slots := osl } := Heap.get?_push_of_some _ hol
        have s1 := PySem.F.sub_tuple_set
        have s2 := PySem.F.sub_tuple_frozenset
        have s3 : (Value.type "tuple" == Value.type "dict") = false := by decide
        have isL : (s.heap.push (newSet w)).IsTuple l items := ⟨_, hol2, rfl, nl, rfl⟩
        unfold Builtin.«set.__init__» noKeywords Builtin.Frozenset.updateFrom
        generalize hold : pyIter = PI
        wp_walk
        subst hold
        refine wpAny_pyIter_tuple isL ?_
        refine wpAny_bind (wpAny_runValue ?_)
        have lt1 : l < s.heap.objs.size := Heap.lt_size hol
        have hh3 : A.in1.in1.in1.handled = none := by simp [hh]
        have neI : l ≠ (s.heap.push (newSet w)).objs.size := by rw [Heap.size_push]; exact Nat.ne_of_lt (Nat.lt_succ_of_lt lt1)
        have nS : s.heap.objs.size ∉ [(s.heap.push (newSet w)).objs.size, l] := by
          rw [Heap.size_push]; simp only [List.mem_cons, List.mem_singleton, List.not_mem_nil, or_false, not_or]
          exact ⟨Nat.ne_of_lt (Nat.lt_succ_self _), Nat.ne_of_gt lt1⟩
        refine sr_loop ((Walks.tuple hh3 _ l neI items).toS) s.heap.objs.size nS xs sz0 hB hB64 val (items.size - 0) 0 0 _ (by omega) (Nat.zero_le _)
          ⟨⟨_, Heap.get?_push_size _ rfl, rfl, rfl⟩, (isL.push _)⟩ ?z0 ?zR
        case z0 =>
          have f := sr_fresh (h := s.heap) w
          exact f.at fun o ho => Heap.get?_push_of_some _ ho
        case zR =>
          intro z' n' mv hS'
          obtain ⟨h', g', d', tk', os'⟩ := z'
          have eg : g' = s.gens := mv.gens
          have ed : d' = s.drawn := mv.drawn
          have eo' : os' = s.os := mv.os
          subst eg; subst ed; subst eo'
          show wpAny _ _ _ _ _ _
          refine wpAny_pure ?_
          show wpAny _ _ (ret Value.none) _ _ _
          refine wpAny_pure ⟨rfl, h', tk', n', rfl, hS', fun b o e => ?_⟩
          have lb := Heap.lt_size e
          have n1 : b ≠ s.heap.objs.size := Nat.ne_of_lt lb
          have n2 : b ≠ (s.heap.push (newSet w)).objs.size := by rw [Heap.size_push]; exact Nat.ne_of_lt (Nat.lt_succ_of_lt lb)
          exact mv.heap b o (by simp only [List.mem_cons, List.mem_singleton, List.not_mem_nil, or_false, not_or]; exact ⟨n1, n2⟩) (Heap.get?_push_of_some _ (Heap.get?_push_of_some _ e))
      · cases r2 with
        | error e => exact hr2
        | ok fl2 =>
          cases fl2 with
          | ret r =>
            obtain ⟨rfl, h', tk, n', rfl, hS', kp⟩ := hr2
            repeat (any_goals (first | assumption | wp_step))
            exact fin _ _ _ hS' kp
          | _ => exact hr2.elim
    | _ => exact hr.elim
end
section
variable {X : Cx}
def rSetT (K : PySem.W.Frag) (w : World) : List V → Hp → VK → Prop := fun vs H Q => ∃ (l : Addr) (xs : List Str), vs = [.ref l] ∧ SqT K H l (xs.map V.str) ∧ xs.length < 64 ∧ ∀ p, H p = none → Q (.ref p) (upd H p (SetS w p xs))
theorem call_setT (hc : X.calm = true) : CallR X (.type "set") (rSetT X.K X.w) := by
  intro pins s σ H vs us Q I r h
  obtain ⟨l, xs, rfl, hl, hB64, q⟩ := h
  rw [Vals.ref1 r]
  obtain ⟨its, rv, pl, hz⟩ := I.tuple hl
  have fr : H s.heap.objs.size = none := I.hok.fresh (Nat.le_refl _)
  have hlen : xs.length = its.toArray.size := by
    have := rv.length
    rw [List.length_map] at this
    simpa using this
  refine set_of_strsT (P := X.prog) (w := X.w) (B := xs) (I.ok.hd hc) pl hlen (fun i v hv => ?_) (fun _ h => h) hB64 fun h' tk n R kp => ?_
  · have hv2 : its[i]? = some v := by simpa using hv
    have hi : i < xs.length := by rw [hlen]; simpa using (List.getElem?_eq_some_iff.mp hv2).1
    have hx : (xs.map V.str)[i]? = some (.str xs[i]) := by rw [List.getElem?_map, List.getElem?_eq_getElem hi]; rfl
    obtain ⟨u, hu, ru⟩ := rv.get hx
    rw [hv2] at hu; cases hu
    obtain ⟨t, e⟩ := (show ∃ t, v = Value.str xs[i] t from ru)
    exact ⟨xs[i], t, List.getElem?_eq_getElem hi, e⟩
  · exact ⟨.ref s.heap.objs.size, upd H s.heap.objs.size (SetS X.w s.heap.objs.size xs), I.laid (t' := tk) kp (Nat.le_refl _) (setS_ok R), rfl, q _ fr⟩
/-- as many as are unlike -/
theorem nodup_len {M L : List Str} (nd : M.Nodup) (hm : ∀ k, k ∈ L ↔ k ∈ M) : M.length ≤ L.length ∧ (M.length = L.length ↔ L.Nodup) := by
  have h1 : M.length ≤ L.length := sub_len M L nd fun x hx => (hm x).mpr hx
  refine ⟨h1, fun e => ?_, fun h => Nat.le_antisymm h1 (sub_len L M h fun x hx => (hm x).mp hx)⟩
  clear h1
  induction L generalizing M with
  | nil => exact List.nodup_nil
  | cons x L ih =>
    have hx : x ∈ M := (hm x).mp List.mem_cons_self
    have le : (M.erase x).length = L.length := by
      rw [List.length_erase_of_mem hx, e, List.length_cons]; rfl
    have nx : x ∉ L := fun hxL => by
      have q := sub_len M L nd fun y hy => by
        rcases List.mem_cons.mp ((hm y).mpr hy) with z | z
        · rw [z]; exact hxL
        · exact z
      rw [e, List.length_cons] at q; omega
    refine List.nodup_cons.mpr ⟨nx, ih (nd.erase x) (fun k => ?_) le⟩
    constructor
    · intro hk
      have ne : k ≠ x := fun z => nx (z ▸ hk)
      exact (List.mem_erase_of_ne ne).mpr ((hm k).mp (List.mem_cons_of_mem _ hk))
    · intro hk
      have ne : k ≠ x := fun z => by
        rw [z] at hk
        exact nd.not_mem_erase hk
      rcases List.mem_cons.mp ((hm k).mpr (List.mem_of_mem_erase hk)) with z | z
      · exact absurd z ne
      · exact z
def rLenSetS (w : World) : List V → Hp → VK → Prop := fun vs H Q => ∃ (a : Addr) (L : List Str), vs = [.ref a] ∧ H a = some (SetS w a L) ∧ L.length < 64 ∧ ∀ n : Nat, (n = L.length ↔ L.Nodup) → Q (.int n) H
theorem call_lenSetS : CallR X (.builtin "len") (rLenSetS X.w) := by
  intro pins s σ H vs us Q I r h
  obtain ⟨a, L, rfl, ha, h64, q⟩ := h
  obtain ⟨n, R⟩ := (I.hok a _ ha).1
  rw [Vals.ref1 r]
  obtain ⟨o, es, ep, t, ho, hex, hd, g, nd, hm, hb, hf, hn, hr, hl⟩ := R
  obtain ⟨l1, l2⟩ := nodup_len nd hm
  have el : (es.toList.map kS).length = es.size := by rw [List.length_map, Array.length_toList]
  rw [el] at l1 l2
  refine call_len_set ho hex hd hf (by have : es.size < 64 := Nat.lt_of_le_of_lt l1 h64; omega) ⟨.int es.size, H, I.tok _, ⟨_, rfl⟩, q es.size l2⟩
end
end Kk

namespace Kk
open PySem PySem.Spec PyProof.Rows L2
/-! data whose lists stand nowhere in S: what changes only S leaves it -/
mutual
inductive Da (K : PySem.W.Frag) (S : List Addr) (H : Hp) : V → PyData → Prop
  | non : Da K S H .non .none
  | bl (b : Bool) : Da K S H (.bl b) (.bool b)
  | int (i : Int) : Da K S H (.int i) (.int i)
  | str (x : Str) : Da K S H (.str x) (.str x)
  | lst {a : Addr} {xs : List V} {ds : List PyData} : a ∉ S → SqL K H a xs → DaAll K S H xs ds → Da K S H (.ref a) (.list ds)
  | tup {a : Addr} {xs : List V} {ds : List PyData} : SqT K H a xs → DaAll K S H xs ds → Da K S H (.ref a) (.tuple ds)
inductive DaAll (K : PySem.W.Frag) (S : List Addr) (H : Hp) : List V → List PyData → Prop
  | nil : DaAll K S H [] []
  | cons {v : V} {vs : List V} {d : PyData} {ds : List PyData} : Da K S H v d → DaAll K S H vs ds → DaAll K S H (v :: vs) (d :: ds)
end
section
variable {K : PySem.W.Frag} {S S' : List Addr} {H H' : Hp}
mutual
theorem Da.ex (e : Ex S' H H') (sub : ∀ b ∈ S', b ∈ S) : ∀ {v : V} {d : PyData}, Da K S H v d → Da K S H' v d
  | _, _, .non => .non
  | _, _, .bl b => .bl b
  | _, _, .int i => .int i
  | _, _, .str x => .str x
  | _, _, .lst n h r => .lst n (e.seqL h fun z => n (sub _ z)) (DaAll.ex e sub r)
  | _, _, .tup h r => .tup (e.seqT h) (DaAll.ex e sub r)
theorem DaAll.ex (e : Ex S' H H') (sub : ∀ b ∈ S', b ∈ S) : ∀ {vs : List V} {ds : List PyData}, DaAll K S H vs ds → DaAll K S H' vs ds
  | _, _, .nil => .nil
  | _, _, .cons h r => .cons (Da.ex e sub h) (DaAll.ex e sub r)
end
mutual
theorem Da.dp : ∀ {v : V} {d : PyData}, Da K S H v d → Dp K H v d
  | _, _, .non => .non
  | _, _, .bl b => .bl b
  | _, _, .int i => .int i
  | _, _, .str x => .str x
  | _, _, .lst _ h r => .lst h (DaAll.dp r)
  | _, _, .tup h r => .tup h (DaAll.dp r)
theorem DaAll.dp : ∀ {vs : List V} {ds : List PyData}, DaAll K S H vs ds → DpAll K H vs ds
  | _, _, .nil => .nil
  | _, _, .cons h r => .cons (Da.dp h) (DaAll.dp r)
end
mutual
theorem Da.less (sub : ∀ b ∈ S', b ∈ S) : ∀ {v : V} {d : PyData}, Da K S H v d → Da K S' H v d
  | _, _, .non => .non
  | _, _, .bl b => .bl b
  | _, _, .int i => .int i
  | _, _, .str x => .str x
  | _, _, .lst n h r => .lst (fun z => n (sub _ z)) h (DaAll.less sub r)
  | _, _, .tup h r => .tup h (DaAll.less sub r)
theorem DaAll.less (sub : ∀ b ∈ S', b ∈ S) : ∀ {vs : List V} {ds : List PyData}, DaAll K S H vs ds → DaAll K S' H vs ds
  | _, _, .nil => .nil
  | _, _, .cons h r => .cons (Da.less sub h) (DaAll.less sub r)
end
mutual
theorem Tp.da : ∀ {v : V} {d : PyData}, Tp K H v d → Da K S H v d
  | _, _, .non => .non
  | _, _, .bl b => .bl b
  | _, _, .int i => .int i
  | _, _, .str x => .str x
  | _, _, .tup h r => .tup h (TpAll.da r)
theorem TpAll.da : ∀ {vs : List V} {ds : List PyData}, TpAll K H vs ds → DaAll K S H vs ds
  | _, _, .nil => .nil
  | _, _, .cons h r => .cons (Tp.da h) (TpAll.da r)
end
theorem DaAll.len {vs : List V} {ds : List PyData} (h : DaAll K S H vs ds) : vs.length = ds.length := by
  induction vs generalizing ds with
  | nil => cases h; rfl
  | cons v vs ih => cases h with | cons a b => rw [List.length_cons, List.length_cons, ih b]
theorem DaAll.get {vs : List V} {ds : List PyData} (h : DaAll K S H vs ds) : ∀ {i : Nat} {v : V}, vs[i]? = some v → ∃ d, ds[i]? = some d ∧ Da K S H v d := by
  induction vs generalizing ds with
  | nil => intro i v e; simp at e
  | cons v0 vs ih =>
    cases h with
    | cons a b =>
      intro i v e
      cases i with
      | zero => cases e; exact ⟨_, rfl, a⟩
      | succ i => exact ih b (i := i) (by simpa using e)
theorem DaAll.app {vs us : List V} {ds es : List PyData} (h : DaAll K S H vs ds) (g : DaAll K S H us es) : DaAll K S H (vs ++ us) (ds ++ es) := by
  induction vs generalizing ds with
  | nil => cases h; exact g
  | cons v vs ih => cases h with | cons a b => exact .cons a (ih b)
theorem DaAll.take {vs : List V} {ds : List PyData} (h : DaAll K S H vs ds) : ∀ n, DaAll K S H (vs.take n) (ds.take n) := by
  induction vs generalizing ds with
  | nil => cases h; intro n; rw [List.take_nil, List.take_nil]; exact .nil
  | cons v vs ih =>
    cases h with
    | cons a b =>
      intro n
      cases n with
      | zero => exact .nil
      | succ n => exact .cons a (ih b n)
theorem DaAll.drop {vs : List V} {ds : List PyData} (h : DaAll K S H vs ds) : ∀ n, DaAll K S H (vs.drop n) (ds.drop n) := by
  induction vs generalizing ds with
  | nil => cases h; intro n; rw [List.drop_nil, List.drop_nil]; exact .nil
  | cons v vs ih =>
    cases h with
    | cons a b =>
      intro n
      cases n with
      | zero => exact .cons a b
      | succ n => exact ih b n
/-- a cut of a tuple -/
theorem da_cut {a : Addr} {xs : List V} {ds : List PyData} {lo hi : Option Int} {Q : VK} (hs : SqT K H a xs) (h : DaAll K S H xs ds)
    (q : ∀ p H' ys es, Ex [] H H' → SqT K H' p ys → DaAll K S H' ys es → es.length ≤ ds.length → (∀ d ∈ es, d ∈ ds) → Q (.ref p) H') : rSlA K (.ref a) lo hi H Q := by
  refine ⟨a, xs, rfl, hs, fun _ => q a H xs ds .refl hs h (Nat.le_refl _) fun _ z => z, fun _ p np => ?_⟩
  have x : Ex [] H (upd H p (.tup (cutV xs lo hi))) := .new np
  have hc : ∃ i j, cutV xs lo hi = (xs.drop i).take j := ⟨_, _, rfl⟩
  obtain ⟨i, j, e⟩ := hc
  refine q p _ (cutV xs lo hi) ((ds.drop i).take j) x (.of upd_same) ?_ ?_ ?_
  · rw [e] at x ⊢; exact ((h.drop i).take j).ex x fun _ z => by cases z
  · rw [List.length_take, List.length_drop]; omega
  · intro d m; exact List.mem_of_mem_drop (List.mem_of_mem_take m)
/-- two tuples, one behind the other -/
theorem da_cat {a b : Addr} {xs ys : List V} {ds es : List PyData} {Q : VK} (ha : SqT K H a xs) (hb : SqT K H b ys) (da : DaAll K S H xs ds) (db : DaAll K S H ys es) (hl : ds.length + es.length ≤ 1000)
    (q : ∀ p H' zs, Ex [] H H' → SqT K H' p zs → DaAll K S H' zs (ds ++ es) → Q (.ref p) H') : rCatA K (.ref a) (.ref b) H Q := by
  have l1 := da.len
  have l2 := db.len
  refine ⟨a, b, xs, ys, rfl, rfl, ha, hb, by rw [l1, l2]; exact Nat.le_trans hl (by decide), fun z => ?_, fun _ z => ?_, fun _ _ p np => ?_⟩
  · subst z; cases da; exact q b H ys .refl hb db
  · subst z; cases db; rw [List.append_nil] at q; exact q a H xs .refl ha da
  · exact q p _ _ (.new np) (.of upd_same) ((da.app db).ex (.new (xs := []) np) fun _ z => by cases z)
theorem tp_cat {a b : Addr} {xs ys : List V} {ds es : List PyData} {Q : VK} (ha : SqT K H a xs) (hb : SqT K H b ys) (da : TpAll K H xs ds) (db : TpAll K H ys es) (hl : ds.length + es.length ≤ 1000)
    (q : ∀ p H' zs, Ex [] H H' → SqT K H' p zs → TpAll K H' zs (ds ++ es) → Q (.ref p) H') : rCatA K (.ref a) (.ref b) H Q := by
  have l1 := da.len
  have l2 := db.len
  refine ⟨a, b, xs, ys, rfl, rfl, ha, hb, by rw [l1, l2]; exact Nat.le_trans hl (by decide), fun z => ?_, fun _ z => ?_, fun _ _ p np => ?_⟩
  · subst z; cases da; exact q b H ys .refl hb db
  · subst z; cases db; rw [List.append_nil] at q; exact q a H xs .refl ha da
  · exact q p _ _ (.new np) (.of upd_same) ((da.app db).ex (.new (xs := []) np))
end
section
variable {X : Cx} {K : PySem.W.Frag}
theorem yesA (n : Nat) : (List.range n).all (fun _ => true) = true := by simp
/-- a tuple held against () -/
theorem op_eqNilT (h : X.K = K) (hu : X.A.units + 64 < cLine) : OpR X (compareOp .Eq) (fun x y H Q => ∃ a b xs, x = .ref a ∧ y = .ref b ∧ SqT K H a xs ∧ SqT K H b [] ∧ Q (.bl xs.isEmpty) H) := by
  subst h
  intro pins s σ H x y v u Q I rx ry h
  obtain ⟨a, b, xs, rfl, rfl, ha, hb, q⟩ := h
  cases (show v = Value.ref a from rx)
  cases (show u = Value.ref b from ry)
  obtain ⟨its, r, pt, hz⟩ := I.tuple ha
  obtain ⟨its2, r2, pt2, hz2⟩ := I.tuple hb
  cases r2
  refine SeqAt.eq_tupleAt (e := fun _ => true) pt pt2 (by omega) (fun j h1 h2 => absurd h2 (Nat.not_lt_zero j)) ⟨.bl xs.isEmpty, H, I, ?_, q⟩
  rw [yesA]
  cases r with
  | nil => rfl
  | cons _ _ => simp; rfl
end
end Kk

namespace K13
open PySem PySem.Spec PyProof.Rows L2 Kk
def topS (i : Nat) : Stmt := PySem.Challenge.pw_wipeways_k13_left_in_order.main.body.getD i (.Pass ⟨0, 0, 0, 0⟩)
abbrev s_is_whole : Stmt := topS 7
abbrev s_first : Stmt := topS 15
abbrev s_choices : Stmt := topS 21
abbrev s_empties : Stmt := topS 23
abbrev s_finit : Stmt := inClass (topS 27) 0
abbrev s_holds : Stmt := inClass (topS 27) 1
theorem sc_is_whole : FnScope ["thing"] ["thing"] (defScope s_is_whole) := ⟨rfl, rfl, rfl, by decide +kernel, rfl, by decide +kernel, by decide +kernel⟩
theorem sc_first : FnScope ["program", "name"] ["program", "name"] (defScope s_first) := ⟨rfl, rfl, rfl, by decide +kernel, rfl, by decide +kernel, by decide +kernel⟩
theorem sc_choices : FnScope ["word"] ["word"] (defScope s_choices) := ⟨rfl, rfl, rfl, by decide +kernel, rfl, by decide +kernel, by decide +kernel⟩
theorem sc_empties : FnScope ["word", "box"] ["word", "box"] (defScope s_empties) := ⟨rfl, rfl, rfl, by decide +kernel, rfl, by decide +kernel, by decide +kernel⟩
theorem sc_finit : FnScope ["self", "place"] ["self", "place"] (defScope s_finit) := ⟨rfl, rfl, rfl, by decide +kernel, rfl, by decide +kernel, by decide +kernel⟩
theorem sc_holds : FnScope ["self", "box"] ["self", "box"] (defScope s_holds) := ⟨rfl, rfl, rfl, by decide +kernel, rfl, by decide +kernel, by decide +kernel⟩
/-! boxes, and what they hold -/
abbrev Bq := Str
abbrev Wv := Int × List Str
def qK (q : Bq) : Key := .inr q
def wvD (x : Wv) : PyData := .tuple [.int x.1, .tuple (x.2.map .str)]
theorem qK_inj {q r : Bq} (h : qK q = qK r) : q = r := Sum.inr.inj h
/-- a dict of boxes that hold f; at most n of them -/
def Hd (K : PySem.W.Frag) (H : Hp) (b : Addr) (kd Ws : List Str) (n : Nat) (f : Bq → Wv) : Prop := ∃ kvs : List (Key × V), H b = some (.dK kvs) ∧ kvs.length ≤ n ∧ (kvs.map (·.1)).Nodup ∧ (∀ kv ∈ kvs, ∃ q : Bq, kv.1 = qK q ∧ q ∈ kd) ∧
  (∀ q v, valV kvs (qK q) = some v → Tp K H v (wvD (f q))) ∧ (∀ q, valV kvs (qK q) = none → f q = (0, [])) ∧ ∀ q, (f q).2.Nodup ∧ ∀ s ∈ (f q).2, s ∈ Ws
def setF (f : Bq → Wv) (q : Bq) (x : Wv) : Bq → Wv := fun r => if r = q then x else f r
theorem putK_keys {κ : Type} [DecidableEq κ] (kvs : List (κ × V)) (k : κ) (v : V) : (putK kvs k v).map (·.1) = if k ∈ kvs.map (·.1) then kvs.map (·.1) else kvs.map (·.1) ++ [k] := by
  unfold putK
  by_cases h : (kvs.any fun kv => decide (kv.1 = k)) = true
  · have m : k ∈ kvs.map (·.1) := by
      obtain ⟨x, hx, e⟩ := List.any_eq_true.mp h
      exact List.mem_map.mpr ⟨x, hx, of_decide_eq_true e⟩
    rw [if_pos h, if_pos m, List.map_map]
    refine List.map_congr_left fun x _ => ?_
    show (if x.1 = k then (x.1, v) else x).1 = x.1
    split <;> rfl
  · have m : ¬ k ∈ kvs.map (·.1) := fun z => h (by
      obtain ⟨x, hx, e⟩ := List.mem_map.mp z
      exact List.any_eq_true.mpr ⟨x, hx, decide_eq_true e⟩)
    rw [if_neg h, if_neg m, List.map_append]; rfl
theorem Hd.ex {K : PySem.W.Frag} {H H' : Hp} {b : Addr} {kd Ws : List Str} {n : Nat} {f : Bq → Wv} {xs : List Addr} (h : Hd K H b kd Ws n f) (e : Ex xs H H') (m : b ∉ xs) : Hd K H' b kd Ws n f := by
  obtain ⟨kvs, h1, h2, h3, h4, h5, h6, h7⟩ := h
  exact ⟨kvs, e.a b _ m h1 (fun _ z => by cases z), h2, h3, h4, fun q v hv => (h5 q v hv).ex e, h6, h7⟩
theorem Hd.mono {K : PySem.W.Frag} {H : Hp} {b : Addr} {kd Ws : List Str} {n m : Nat} {f : Bq → Wv} (h : Hd K H b kd Ws n f) (e : n ≤ m) : Hd K H b kd Ws m f := by
  obtain ⟨kvs, h1, h2, r⟩ := h
  exact ⟨kvs, h1, Nat.le_trans h2 e, r⟩
theorem Hd.put {K : PySem.W.Frag} {H : Hp} {b : Addr} {kd Ws : List Str} {n : Nat} {f : Bq → Wv} {kvs : List (Key × V)} {q : Bq} {v : V} {x : Wv} (h1 : H b = some (.dK kvs)) (h2 : kvs.length ≤ n) (h3 : (kvs.map (·.1)).Nodup) (h4 : ∀ kv ∈ kvs, ∃ q : Bq, kv.1 = qK q ∧ q ∈ kd)
    (h5 : ∀ q v, valV kvs (qK q) = some v → Tp K H v (wvD (f q))) (h6 : ∀ q, valV kvs (qK q) = none → f q = (0, [])) (h7 : ∀ q, (f q).2.Nodup ∧ ∀ s ∈ (f q).2, s ∈ Ws) (hq : q ∈ kd) (hv : Tp K H v (wvD x)) (hx : x.2.Nodup ∧ ∀ s ∈ x.2, s ∈ Ws) :
    Hd K (upd H b (.dK (putK kvs (qK q) v))) b kd Ws (n + 1) (setF f q x) := by
  have e : Ex [b] H (upd H b (.dK (putK kvs (qK q) v))) := .put h1 (fun _ z => by cases z) (by simp)
  have hk := putK_keys kvs (qK q) v
  have vv : ∀ r, valV (putK kvs (qK q) v) (qK r) = if r = q then some v else valV kvs (qK r) := fun r => by
    rw [valV_put]
    by_cases z : r = q
    · rw [if_pos z, if_pos (by rw [z])]
    · rw [if_neg z, if_neg fun y => z (qK_inj y)]
  refine ⟨_, upd_same, Nat.le_trans (length_putK _ _ _) (by omega), ?_, fun kv hkv => ?_, fun r u hu => ?_, fun r hr => ?_, fun r => ?_⟩
  · rw [hk]
    split
    · exact h3
    · rename_i m
      exact List.nodup_append.mpr ⟨h3, by simp, fun a ha b hb => by rw [List.mem_singleton.mp hb]; exact fun z => m (z ▸ ha)⟩
  · have hm : kv.1 ∈ (putK kvs (qK q) v).map (·.1) := List.mem_map.mpr ⟨kv, hkv, rfl⟩
    rw [hk] at hm
    have fin : kv.1 ∈ kvs.map (·.1) → ∃ q : Bq, kv.1 = qK q ∧ q ∈ kd := fun z => by
      obtain ⟨x, hx, ex⟩ := List.mem_map.mp z
      rw [← ex]; exact h4 x hx
    split at hm
    · exact fin hm
    · rcases List.mem_append.mp hm with z | z
      · exact fin z
      · exact ⟨q, List.mem_singleton.mp z, hq⟩
  · rw [vv] at hu
    unfold setF
    split at hu
    · rename_i z
      cases hu
      rw [if_pos z]; exact hv.ex e
    · rename_i z
      rw [if_neg z]; exact (h5 r u hu).ex e
  · rw [vv] at hr
    unfold setF
    split at hr
    · cases hr
    · rename_i z
      rw [if_neg z]; exact h6 r hr
  · unfold setF
    split
    · exact hx
    · exact h7 r
/-- a box, as it stands -/
def BxT (H : Hp) (v : V) (q : Bq) : Prop := v = .str q
theorem BxT.ex {H H' : Hp} {v : V} {q : Bq} {xs : List Addr} (h : BxT H v q) (e : Ex xs H H') : BxT H' v q := h
/-- a frame -/
def FrH (CF : Addr) (H : Hp) (fr b : Addr) (pl : V) : Prop := ∃ dx fs, H fr = some (.ins CF dx fs) ∧ fs.lookup ("boxes" : Str) = some (.ref b) ∧ fs.lookup ("place" : Str) = some pl ∧ fs.lookup ("holds" : Str) = none ∧ fs.lookup ("held" : Str) = none ∧ fs.length ≤ 10
theorem FrH.ex {CF : Addr} {H H' : Hp} {fr b : Addr} {pl : V} {xs : List Addr} (h : FrH CF H fr b pl) (e : Ex xs H H') (m : fr ∉ xs) : FrH CF H' fr b pl := by
  obtain ⟨dx, fs, h1, r⟩ := h
  exact ⟨dx, fs, e.a fr _ m h1 (fun _ z => by cases z), r⟩
structure TF (K : PySem.W.Frag) (mg : Str → Option Value) (CF : Addr) : Prop where
  cl : Cls K CF
  nP : NoAttr K CF "place"
  nB : NoAttr K CF "boxes"
  mgC : mg "Frame" = some (.ref CF)
/-- the module's own tuple of nothing -/
structure Nth (K : PySem.W.Frag) (mg : Str → Option Value) (nA eA : Addr) : Prop where
  m : mg "NOTHING" = some (.ref nA)
  n : ∀ H, SqT K H nA [.int 0, .ref eA]
  e : ∀ H, SqT K H eA []
theorem Nth.tp {K : PySem.W.Frag} {mg : Str → Option Value} {nA eA : Addr} (h : Nth K mg nA eA) (H : Hp) : Tp K H (.ref nA) (wvD (0, [])) := .tup (h.n H) (.cons (.int 0) (.cons (.tup (h.e H) .nil) .nil))
section
variable {P : Program} {w : World} {K : PySem.W.Frag} {mg : Str → Option Value} {base : Heap}
def spWholeI : Sp := fun vs H Q _ => ∃ n : Int, vs = [.int n] ∧ Q (.bl true) H
theorem ok_is_whole {f : Addr} {fd : FuncData} {k : Nat} (F : Fun K "is_whole" "is_whole" s_is_whole f fd) (m_isinstance : mg "isinstance" = none) (m_int : mg "int" = none) (m_bool : mg "bool" = none) : FnOk P w K mg base CX0 (k + 1) f fd ["thing"] spWholeI := by
  refine F.ok sc_is_whole (fun vs H Q E h => ?_) (fun cdv A outer s H vs Q E hr h => ?_)
  · obtain ⟨n, rfl, _⟩ := h; rfl
  · obtain ⟨n, rfl, q⟩ := h
    refine ⟨_, (pss_one (ps_ret (pe_and (pe_callB call_isi (by rfl) m_isinstance (by decide +kernel) (pa_cons (pv 0) (pa_cons (pe_bltn (v := .ty "int") (by rfl) m_int (by decide +kernel) rfl) pa_nil))) (pe_one (pe_not (pe_callB call_isi (by rfl) m_isinstance (by decide +kernel) (pa_cons (pv 0) (pa_cons (pe_bltn (v := .ty "bool") (by rfl) m_bool (by decide +kernel) rfl) pa_nil)))))))), ?_⟩
    refine ⟨.int n, rfl, .int n, .ty "int", .type "int", .type "int", true, rfl, .ty "int", .base (.int n), kit_ty (by decide +kernel), _, rfl, iteT ?_⟩
    exact ⟨.int n, rfl, .int n, .ty "bool", .type "int", .type "bool", false, rfl, .ty "bool", .base (.int n), kit_ty (by decide +kernel), _, rfl, q⟩
def spFirst : Sp := fun vs H Q _ => ∃ (p v : V), vs = [p, v] ∧ ∀ t, H t = none → Q (.ref t) (upd H t (.tup [v, .int 0]))
theorem ok_first {f : Addr} {fd : FuncData} {k : Nat} (F : Fun K "first_place" "first_place" s_first f fd) : FnOk P w K mg base CX0 (k + 1) f fd ["program", "name"] spFirst := by
  refine F.ok sc_first (fun vs H Q E h => ?_) (fun cdv A outer s H vs Q E hr h => ?_)
  · obtain ⟨p, v, rfl, _⟩ := h; rfl
  · obtain ⟨p, v, rfl, q⟩ := h
    refine ⟨_, pss_one (ps_ret (pe_tup (pa_cons (pv 1) (pa_cons pe_int pa_nil)))), ?_⟩
    exact ⟨v, rfl, (by show 2 ≤ sizeLine; decide), fun t nt => q t nt⟩
def spFInit (CF : Addr) : Sp := fun vs H Q _ => ∃ (p dx : Addr) (pl : V), vs = [.ref p, pl] ∧ H p = some (.ins CF dx []) ∧ ∀ H' b, H b = none → Ex [p] H H' → FrH CF H' p b pl → H' b = some (.dK []) → Q .non H'
theorem lk_putF2 {a b : V} {m : Str} (h1 : ¬ m = "boxes") (h2 : ¬ m = "place") : (putF "boxes" b (putF "place" a [])).lookup m = none := by
  rw [lookup_putF, if_neg h1, lookup_putF, if_neg h2]; rfl
theorem ok_finit {f CF : Addr} {fd : FuncData} {k : Nat} (F : Fun K "__init__" "Frame.__init__" s_finit f fd) (T : TF K mg CF) : FnOk P w K mg base CX0 (k + 1) f fd ["self", "place"] (spFInit CF) := by
  refine F.ok sc_finit (fun vs H Q E h => ?_) (fun cdv A outer s H vs Q E hr h => ?_)
  · obtain ⟨p, dx, pl, rfl, _⟩ := h; rfl
  · obtain ⟨p, dx, pl, rfl, hp, q⟩ := h
    refine ⟨_, pss_cons (ps_fld (pv 0) (pv 1) rfl) (pss_one (ps_fld (pv 0) pe_dnewK rfl)), ?_⟩
    refine ⟨pl, rfl, .ref p, rfl, p, CF, dx, [], rfl, hp, T.cl, T.nP, (by show 0 < 1000; decide), fun b nb => ?_⟩
    have nb0 : H b = none := upd_free nb
    have bp : p ≠ b := fun z => by rw [z, nb0] at hp; cases hp
    refine ⟨.ref p, rfl, p, CF, dx, _, rfl, (by rw [upd_ne bp, upd_same]), T.cl, T.nB, (by show 1 < 1000; decide), ?_⟩
    refine q _ b nb0 ?_ ⟨dx, _, upd_same, ?_, ?_, lk_putF2 (by decide +kernel) (by decide +kernel), lk_putF2 (by decide +kernel) (by decide +kernel), ?_⟩ (by rw [upd_ne bp.symm, upd_same])
    · have y1 : Ex [p] H (upd H p (.ins CF dx (putF "place" pl []))) := .put hp (fun _ z => by cases z) (by simp)
      refine (y1.trans (.new nb)).trans (.put (u := .ins CF dx (putF "place" pl [])) ?_ (fun _ z => by cases z) (by simp))
      rw [upd_ne bp, upd_same]
    · rw [lookup_putF, if_pos rfl]
    · rw [lookup_putF, if_neg (by decide +kernel), lookup_putF, if_pos rfl]
    · have := length_putF "boxes" (.ref b) (putF "place" pl [])
      have := length_putF "place" pl []
      simp only [List.length_nil] at *
      omega
def spHolds (K : PySem.W.Frag) (CF : Addr) : Sp := fun vs H Q _ => ∃ (fr b : Addr) (pl v : V) (q : Bq) (kd Ws : List Str) (n : Nat) (f : Bq → Wv), vs = [.ref fr, v] ∧ FrH CF H fr b pl ∧ Hd K H b kd Ws n f ∧ BxT H v q ∧ ∀ u, Tp K H u (wvD (f q)) → Q u H
theorem ok_holds {f CF nA eA : Addr} {fd : FuncData} {k : Nat} (F : Fun K "holds" "Frame.holds" s_holds f fd) (T : TF K mg CF) (N : Nth K mg nA eA) : FnOk P w K mg base CX0 (k + 1) f fd ["self", "box"] (spHolds K CF) := by
  refine F.ok sc_holds (fun vs H Q E h => ?_) (fun cdv A outer s H vs Q E hr h => ?_)
  · obtain ⟨fr, b, pl, v, q, kd, Ws, n, f, rfl, _⟩ := h; rfl
  · obtain ⟨fr, b, pl, v, q, kd, Ws, n, f, rfl, ⟨dx, fs, h1, h2, _⟩, ⟨kvs, k1, k2, k3, k4, k5, k6, k7⟩, rfl, hq⟩ := h
    refine ⟨_, pss_one (ps_ret (pe_dget2 (hu_of hr) (pe_fld (pv 0) rfl) (pv 1) (pe_glob (v := .ref nA) rfl N.m rfl) ⟨rfl, rfl, rfl, rfl⟩)), ?_⟩
    refine ⟨.ref fr, rfl, fr, CF, dx, fs, .ref b, rfl, h1, T.cl, T.nB, h2, b, rfl, .inl ⟨kvs, .inl k1⟩, .str q, rfl, valV kvs (qK q), DGet.k (k := qK q) k1, ?_⟩
    cases hv : valV kvs (qK q) with
    | none =>
      refine hq _ ?_
      rw [k6 q hv]; exact N.tp H
    | some u => exact hq u (k5 q u hv)
end
end K13

namespace Kk
open PySem PySem.Spec PyProof.Rows L2
def leS (a b : Str) : Prop := a.cps.toList ≤ b.cps.toList
theorem leS_of {a b : Str} (h : ltCps b.cps.toList a.cps.toList = false) : leS a b := by
  rw [ltCps_eq] at h
  exact List.not_lt.mp (of_decide_eq_false h)
theorem leS_trans {a b c : Str} (h : leS a b) (g : leS b c) : leS a c := List.le_trans h g
theorem leS_anti {a b : Str} (h : leS a b) (g : leS b a) : a = b := by
  have e : a.cps.toList = b.cps.toList := List.le_antisymm h g
  cases a; cases b
  simp only at e
  congr
  exact Array.ext' e
theorem pw_rise : ∀ (l : List Str) (p : Str), risingS p l = true → (p :: l).Pairwise leS
  | [], p, _ => List.pairwise_singleton _ _
  | x :: r, p, h => by
    have h' : (!ltCps x.cps.toList p.cps.toList && risingS x r) = true := h
    rw [Bool.and_eq_true] at h'
    have h1 : leS p x := leS_of (by simpa using h'.1)
    have h2 := pw_rise r x h'.2
    refine List.pairwise_cons.mpr ⟨fun y hy => ?_, h2⟩
    rcases List.mem_cons.mp hy with z | z
    · rw [z]; exact h1
    · exact leS_trans h1 (List.rel_of_pairwise_cons h2 z)
theorem pw_sorted {l : List Str} (h : sortedS l = true) : l.Pairwise leS := by
  cases l with
  | nil => exact List.Pairwise.nil
  | cons x r => exact pw_rise r x h
theorem srt_uniq : ∀ (a b : List Str), a.Pairwise leS → b.Pairwise leS → a.Nodup → b.Nodup → (∀ x, x ∈ a ↔ x ∈ b) → a = b
  | [], [], _, _, _, _, _ => rfl
  | [], y :: b, _, _, _, _, h => by have := (h y).mpr List.mem_cons_self; cases this
  | x :: a, [], _, _, _, _, h => by have := (h x).mp List.mem_cons_self; cases this
  | x :: a, y :: b, pa, pb, na, nb, h => by
    have e : x = y := by
      rcases List.mem_cons.mp ((h x).mp List.mem_cons_self) with z | z
      · exact z
      · rcases List.mem_cons.mp ((h y).mpr List.mem_cons_self) with z2 | z2
        · exact z2.symm
        · exact leS_anti (List.rel_of_pairwise_cons pa z2) (List.rel_of_pairwise_cons pb z)
    subst e
    have na' := List.nodup_cons.mp na
    have nb' := List.nodup_cons.mp nb
    rw [srt_uniq a b (List.pairwise_cons.mp pa).2 (List.pairwise_cons.mp pb).2 na'.2 nb'.2 fun z => ?_]
    constructor
    · intro hz
      rcases List.mem_cons.mp ((h z).mp (List.mem_cons_of_mem _ hz)) with q | q
      · rw [q] at hz; exact absurd hz na'.1
      · exact q
    · intro hz
      rcases List.mem_cons.mp ((h z).mpr (List.mem_cons_of_mem _ hz)) with q | q
      · rw [q] at hz; exact absurd hz nb'.1
      · exact q
/-- the texts of a list, each once, rising -/
def SU (ws ys : List Str) : Prop := sortedS ys = true ∧ ys.Nodup ∧ ∀ k, k ∈ ys ↔ k ∈ ws
theorem SU.uniq {ws ys zs : List Str} (h : SU ws ys) (g : SU ws zs) : ys = zs := srt_uniq ys zs (pw_sorted h.1) (pw_sorted g.1) h.2.1 g.2.1 fun x => by rw [h.2.2 x, g.2.2 x]
noncomputable def sortU (ws : List Str) : List Str := Classical.epsilon (SU ws)
theorem SU.eq {ws ys : List Str} (h : SU ws ys) : sortU ws = ys := SU.uniq (Classical.epsilon_spec ⟨ys, h⟩) h
theorem rise_pw : ∀ (l : List Str) (p : Str), (p :: l).Pairwise leS → risingS p l = true
  | [], p, _ => rfl
  | x :: r, p, h => by
    show (!ltCps x.cps.toList p.cps.toList && risingS x r) = true
    have h1 : leS p x := List.rel_of_pairwise_cons h List.mem_cons_self
    rw [rise_pw r x (List.pairwise_cons.mp h).2, Bool.and_true, ltCps_eq]
    have : ¬ x.cps.toList < p.cps.toList := List.not_lt.mpr h1
    simp [this]
theorem sorted_pw {l : List Str} (h : l.Pairwise leS) : sortedS l = true := by
  cases l with
  | nil => rfl
  | cons x r => exact rise_pw r x h
theorem dedup_ex : ∀ ws : List Str, ∃ zs : List Str, zs.Nodup ∧ ∀ k, k ∈ zs ↔ k ∈ ws
  | [] => ⟨[], by simp, fun k => Iff.rfl⟩
  | w :: ws => by
    obtain ⟨zs, h1, h2⟩ := dedup_ex ws
    by_cases m : w ∈ zs
    · refine ⟨zs, h1, fun k => ?_⟩
      rw [h2 k, List.mem_cons]
      refine ⟨.inr, fun z => z.elim (fun e => ?_) id⟩
      rw [e]; exact (h2 w).mp m
    · exact ⟨w :: zs, List.nodup_cons.mpr ⟨m, h1⟩, fun k => by rw [List.mem_cons, List.mem_cons, h2 k]⟩
open Classical in
theorem su_ex (ws : List Str) : ∃ ys, SU ws ys := by
  obtain ⟨zs, h1, h2⟩ := dedup_ex ws
  have pm := List.mergeSort_perm zs (fun a b => decide (leS a b))
  refine ⟨zs.mergeSort (fun a b => decide (leS a b)), sorted_pw ?_, pm.nodup_iff.mpr h1, fun k => by rw [pm.mem_iff, h2 k]⟩
  have := List.pairwise_mergeSort (le := fun a b => decide (leS a b)) (fun a b c hab hbc => decide_eq_true (leS_trans (of_decide_eq_true hab) (of_decide_eq_true hbc)))
    (fun a b => by
      rcases List.le_total a.cps.toList b.cps.toList with z | z
      · rw [Bool.or_eq_true]; exact .inl (decide_eq_true z)
      · rw [Bool.or_eq_true]; exact .inr (decide_eq_true z)) zs
  exact this.imp fun z => of_decide_eq_true z
theorem sortU_ok (ws : List Str) : SU ws (sortU ws) := Classical.epsilon_spec (su_ex ws)
end Kk

set_option maxHeartbeats 4000000
namespace K13
open PySem PySem.Spec PyProof.Rows L2 Kk
abbrev s_rec : Stmt := topS 4
theorem sc_rec : FnScope ["box", "name"] ["box", "name"] (defScope s_rec) := ⟨rfl, rfl, rfl, by decide +kernel, rfl, by decide +kernel, by decide +kernel⟩
abbrev s_put : Stmt := topS 29
abbrev n_put : List Str := ["word", "frame", "answer", "number", "worths", "other", "more"]
theorem sc_put : FnScope n_put ["word", "frame", "answer"] (defScope s_put) := ⟨rfl, rfl, rfl, by decide +kernel, rfl, by decide +kernel, by decide +kernel⟩
theorem sN {a b : Str} (h : ¬ a = b) {A B : Prop} (x : B) : if decide (V.str a = V.str b) = true then A else B := by
  rw [if_neg fun e => h (V.str.inj (of_decide_eq_true e))]; exact x
theorem sY {a : Str} {A B : Prop} (x : A) : if decide (V.str a = V.str a) = true then A else B := by
  rw [if_pos (decide_eq_true rfl)]; exact x
theorem at0 {α : Type} {x : α} {xs : List α} : atI (x :: xs) 0 = some x := atI_nat (j := 0) rfl
theorem at1 {α : Type} {x y : α} {xs : List α} : atI (x :: y :: xs) 1 = some y := atI_nat (j := 1) rfl
theorem at2 {α : Type} {x y z : α} {xs : List α} : atI (x :: y :: z :: xs) 2 = some z := atI_nat (j := 2) rfl
theorem at3 {α : Type} {x y z u : α} {xs : List α} : atI (x :: y :: z :: u :: xs) 3 = some u := atI_nat (j := 3) rfl
theorem l0 : (0 : Nat) ≤ sizeLine := by decide
theorem l1 : (1 : Nat) ≤ sizeLine := by decide
theorem l2 : (2 : Nat) ≤ sizeLine := by decide
theorem l3 : (3 : Nat) ≤ sizeLine := by decide
def dotS : Str := Str.ofString "."
/-! words of a row without rows in it -/
inductive Wo
  | take (b s : Str)
  | ask (b : Str)
  | number (b : Str) (n : Int)
  | copy (b c : Str)
  | mix (b c d : Str)
  | opn (b c : Str)
  | tell (b : Str)
  | wipe (b : Str)
  | clear (x : Str)
  | drop (bs : List Str)
  | risk (x : Str)
  | fault (x : Str)
  | back
  | call (x : Str) (ca cg : List Str)
  | choose (rs : List PyData)
  | loop (rr : PyData)
  | out (n : Nat)
def kW : Wo → Str
  | .take _ _ => Str.ofString "take"
  | .ask _ => Str.ofString "ask"
  | .number _ _ => Str.ofString "number"
  | .copy _ _ => Str.ofString "copy"
  | .mix _ _ _ => Str.ofString "mix"
  | .opn _ _ => Str.ofString "open"
  | .tell _ => Str.ofString "tell"
  | .wipe _ => Str.ofString "wipe"
  | .clear _ => Str.ofString "clear"
  | .drop _ => Str.ofString "drop"
  | .risk _ => Str.ofString "risk"
  | .fault _ => Str.ofString "fault"
  | .back => Str.ofString "back"
  | .call _ _ _ => Str.ofString "call"
  | .choose _ => Str.ofString "choose"
  | .loop _ => Str.ofString "loop"
  | .out _ => Str.ofString "out"
def pW : Wo → List PyData
  | .take b s => [.str b, .str s]
  | .ask b => [.str b]
  | .number b n => [.str b, .int n]
  | .copy b c => [.str b, .str c]
  | .mix b c d => [.str b, .str c, .str d]
  | .opn b c => [.str b, .str c]
  | .tell b => [.str b]
  | .wipe b => [.str b]
  | .clear x => [.str x]
  | .drop bs => [.tuple (bs.map .str)]
  | .risk x => [.str x]
  | .fault x => [.str x]
  | .back => []
  | .call x ca cg => [.str x, .tuple (ca.map .str), .tuple (cg.map .str)]
  | .choose rs => [.tuple rs]
  | .loop rr => [rr]
  | .out n => [.int n]
def wD (W : Wo) : PyData := .tuple (.str (kW W) :: pW W)
def chW : Wo → Int
  | .take _ _ => 10000
  | .ask _ => 10000
  | .risk _ => 2
  | .choose rs => (rs.length : Int)
  | _ => 0
noncomputable def valW (f : Bq → Wv) (ans : Int) : Wo → Wv
  | .take _ s => (ans, [s])
  | .ask _ => (ans, [])
  | .number _ n => (n, [])
  | .copy _ c => f c
  | .mix _ c d => (((f c).1 + 2 * (f d).1) % 10007, sortU ((f c).2 ++ (f d).2))
  | .opn _ c => ((f c).1 % 2, [])
  | _ => (0, [])
def isPut : Wo → Bool
  | .take _ _ => true
  | .ask _ => true
  | .number _ _ => true
  | .copy _ _ => true
  | .mix _ _ _ => true
  | .opn _ _ => true
  | _ => false
def boxW : Wo → Bq
  | .take b _ => b
  | .ask b => b
  | .number b _ => b
  | .copy b _ => b
  | .mix b _ _ => b
  | .opn b _ => b
  | .tell b => b
  | .wipe b => b
  | _ => Str.ofString ""
/-- a word, as it stands -/
theorem word_in {K : PySem.W.Frag} {H : Hp} {v : V} {W : Wo} (h : Tp K H v (wD W)) : ∃ a r, v = .ref a ∧ SqT K H a (.str (kW W) :: r) ∧ TpAll K H r (pW W) := by
  unfold wD at h
  cases h with
  | tup hs ha =>
    rename_i a xs
    cases ha with
    | cons h0 hr =>
      cases h0
      exact ⟨a, _, rfl, hs, hr⟩
theorem one_s {K : PySem.W.Frag} {H : Hp} {r : List V} {b : Str} {ds : List PyData} (h : TpAll K H r (.str b :: ds)) : ∃ r', r = .str b :: r' ∧ TpAll K H r' ds := by
  cases h with
  | cons h0 hr => cases h0; exact ⟨_, rfl, hr⟩
theorem one_i {K : PySem.W.Frag} {H : Hp} {r : List V} {n : Int} {ds : List PyData} (h : TpAll K H r (.int n :: ds)) : ∃ r', r = .int n :: r' ∧ TpAll K H r' ds := by
  cases h with
  | cons h0 hr => cases h0; exact ⟨_, rfl, hr⟩
theorem no_v {K : PySem.W.Frag} {H : Hp} {r : List V} (h : TpAll K H r []) : r = [] := by cases h; rfl
theorem strs_inv {K : PySem.W.Frag} {H : Hp} : ∀ {xs : List V} {ws : List Str}, TpAll K H xs (ws.map PyData.str) → xs = ws.map V.str
  | _, [], h => by cases h; rfl
  | _, w :: ws, h => by
    cases h with
    | cons a b => cases a; rw [strs_inv b]; rfl
/-- what a box holds, taken apart -/
theorem wv_inv {K : PySem.W.Frag} {H : Hp} {v : V} {x : Wv} (h : Tp K H v (wvD x)) : ∃ a c, v = .ref a ∧ SqT K H a [.int x.1, .ref c] ∧ SqT K H c (x.2.map V.str) := by
  unfold wvD at h
  cases h with
  | tup hs ha =>
    rename_i a xs
    cases ha with
    | cons h1 h2 =>
      cases h1
      cases h2 with
      | cons h3 h4 =>
        cases h4
        cases h3 with
        | tup hs2 ha2 =>
          rename_i c ys
          rw [strs_inv ha2] at hs2
          exact ⟨a, c, rfl, hs, hs2⟩
theorem wv_mk {K : PySem.W.Frag} {H : Hp} {a c : Addr} {n : Int} {ws : List Str} (h1 : SqT K H a [.int n, .ref c]) (h2 : SqT K H c (ws.map V.str)) : Tp K H (.ref a) (wvD (n, ws)) :=
  .tup h1 (.cons (.int n) (.cons (.tup h2 (TpAll.strs ws)) .nil))
section
variable {P : Program} {w : World} {K : PySem.W.Frag} {mg : Str → Option Value} {base : Heap}
def spRec : Sp := fun vs H Q _ => ∃ a b : Str, vs = [.str a, .str b] ∧ b.length ≤ 1000 ∧ Q (.bl (Txt.startswith a (b ++ dotS))) H
theorem ok_rec {f : Addr} {fd : FuncData} {k : Nat} (F : Fun K "in_record" "in_record" s_rec f fd) : FnOk P w K mg base CX0 (k + 1) f fd ["box", "name"] spRec := by
  refine F.ok sc_rec (fun vs H Q E h => ?_) (fun cdv A outer s H vs Q E hr h => ?_)
  · obtain ⟨a, b, rfl, _⟩ := h; rfl
  · obtain ⟨a, b, rfl, hb, q⟩ := h
    refine ⟨_, pss_one (ps_ret (pe_m1 PySem.F.slot_str_startswith PySem.F.type_str_startswith mt_startswith (pv 0) (pe_op op_add_str (pv 1) pe_str))), ?_⟩
    refine ⟨.str a, rfl, ⟨a, rfl⟩, .str b, rfl, b, dotS, rfl, rfl, ?_, a, b ++ dotS, rfl, rfl, q⟩
    have e : dotS.length = 1 := by decide +kernel
    rw [e]; exact Nat.le_trans (Nat.add_le_add_right hb 1) (by decide)
/-- how many answers: by the word's first part -/
def spChoices (K : PySem.W.Frag) : Sp := fun vs H Q _ => ∃ (v : V) (W : Wo), vs = [v] ∧ Tp K H v (wD W) ∧ Q (.int (chW W)) H
theorem ok_choices {f : Addr} {fd : FuncData} {k : Nat} (F : Fun K "choices_of" "choices_of" s_choices f fd) (g_MN : ∃ t, mg "MOST_NUMBER" = some (.int 9999 t)) (m_len : mg "len" = none) : FnOk P w K mg base CX0 (k + 1) f fd ["word"] (spChoices K) := by
  obtain ⟨t1, g1⟩ := g_MN
  refine F.ok sc_choices (fun vs H Q E h => ?_) (fun cdv A outer s H vs Q E hr h => ?_)
  · obtain ⟨v, W, rfl, _⟩ := h; rfl
  · obtain ⟨v, W, rfl, hw, q⟩ := h
    refine ⟨_, (pss_cons (ps_if (PW.pt (pw_or (pt_cmpR op_eq (pe_ix ix_tup (pv 0) pe_int (fun _ _ => rfl)) pe_str (nomark _)) (pw_or1 (pt_cmpR op_eq (pe_ix ix_tup (pv 0) pe_int (fun _ _ => rfl)) pe_str (nomark _))))) (pss_one (ps_ret (pe_op op_add (pe_glob (v := .int 9999) rfl g1 ⟨_, rfl⟩) pe_int))) pss_nil)
      (pss_cons (ps_if (pt_cmpR op_eq (pe_ix ix_tup (pv 0) pe_int (fun _ _ => rfl)) pe_str (nomark _)) (pss_one (ps_ret (pe_callB call_len_seq (by rfl) m_len PySem.boot_len (pa_cons (pe_ix ix_tup (pv 0) pe_int (fun _ _ => rfl)) pa_nil)))) pss_nil)
      (pss_cons (ps_if (pt_cmpR op_eq (pe_ix ix_tup (pv 0) pe_int (fun _ _ => rfl)) pe_str (nomark _)) (pss_one (ps_ret pe_int)) pss_nil)
      (pss_one (ps_ret pe_int))))), ?_⟩
    obtain ⟨a, r, rfl, hs, hw0⟩ := word_in hw
    have nch : (∃ rs, W = .choose rs) ∨ ¬ ∃ rs, W = .choose rs := Classical.em _
    rcases nch with ⟨rs, rfl⟩ | nch
    · cases hw0 with
      | cons h1 h2 =>
        cases h1 with
        | tup hs2 ha2 =>
          rename_i c ys
          have el : ys.length = rs.length := ha2.len
          refine ⟨.ref a, rfl, a, _, 0, _, rfl, rfl, hs, at0, rfl, _, rfl, sN (show ¬ Str.ofString "choose" = Str.ofString "take" by decide +kernel) ⟨.ref a, rfl, a, _, 0, _, rfl, rfl, hs, at0, rfl, _, rfl, sN (show ¬ Str.ofString "choose" = Str.ofString "ask" by decide +kernel) ⟨.ref a, rfl, a, _, 0, _, rfl, rfl, hs, at0, rfl, _, rfl, sY ⟨.ref a, rfl, a, _, 1, _, rfl, rfl, hs, at1, c, ys, rfl, .inr hs2, ?_⟩⟩⟩⟩
          rw [el]; exact q
    rcases (show (kW W = Str.ofString "take" ∧ chW W = 10000) ∨ (kW W = Str.ofString "ask" ∧ chW W = 10000) ∨ (kW W = Str.ofString "risk" ∧ chW W = 2) ∨ (¬ kW W = Str.ofString "take" ∧ ¬ kW W = Str.ofString "ask" ∧ ¬ kW W = Str.ofString "choose" ∧ ¬ kW W = Str.ofString "risk" ∧ chW W = 0) by
      cases W with
      | take b s => exact .inl ⟨rfl, rfl⟩
      | ask b => exact .inr (.inl ⟨rfl, rfl⟩)
      | risk x => exact .inr (.inr (.inl ⟨rfl, rfl⟩))
      | number b n => exact .inr (.inr (.inr ⟨(by decide +kernel : ¬ Str.ofString "number" = Str.ofString "take"), (by decide +kernel : ¬ Str.ofString "number" = Str.ofString "ask"), (by decide +kernel : ¬ Str.ofString "number" = Str.ofString "choose"), (by decide +kernel : ¬ Str.ofString "number" = Str.ofString "risk"), rfl⟩))
      | copy b c => exact .inr (.inr (.inr ⟨(by decide +kernel : ¬ Str.ofString "copy" = Str.ofString "take"), (by decide +kernel : ¬ Str.ofString "copy" = Str.ofString "ask"), (by decide +kernel : ¬ Str.ofString "copy" = Str.ofString "choose"), (by decide +kernel : ¬ Str.ofString "copy" = Str.ofString "risk"), rfl⟩))
      | mix b c d => exact .inr (.inr (.inr ⟨(by decide +kernel : ¬ Str.ofString "mix" = Str.ofString "take"), (by decide +kernel : ¬ Str.ofString "mix" = Str.ofString "ask"), (by decide +kernel : ¬ Str.ofString "mix" = Str.ofString "choose"), (by decide +kernel : ¬ Str.ofString "mix" = Str.ofString "risk"), rfl⟩))
      | opn b c => exact .inr (.inr (.inr ⟨(by decide +kernel : ¬ Str.ofString "open" = Str.ofString "take"), (by decide +kernel : ¬ Str.ofString "open" = Str.ofString "ask"), (by decide +kernel : ¬ Str.ofString "open" = Str.ofString "choose"), (by decide +kernel : ¬ Str.ofString "open" = Str.ofString "risk"), rfl⟩))
      | tell b => exact .inr (.inr (.inr ⟨(by decide +kernel : ¬ Str.ofString "tell" = Str.ofString "take"), (by decide +kernel : ¬ Str.ofString "tell" = Str.ofString "ask"), (by decide +kernel : ¬ Str.ofString "tell" = Str.ofString "choose"), (by decide +kernel : ¬ Str.ofString "tell" = Str.ofString "risk"), rfl⟩))
      | wipe b => exact .inr (.inr (.inr ⟨(by decide +kernel : ¬ Str.ofString "wipe" = Str.ofString "take"), (by decide +kernel : ¬ Str.ofString "wipe" = Str.ofString "ask"), (by decide +kernel : ¬ Str.ofString "wipe" = Str.ofString "choose"), (by decide +kernel : ¬ Str.ofString "wipe" = Str.ofString "risk"), rfl⟩))
      | clear x => exact .inr (.inr (.inr ⟨(by decide +kernel : ¬ Str.ofString "clear" = Str.ofString "take"), (by decide +kernel : ¬ Str.ofString "clear" = Str.ofString "ask"), (by decide +kernel : ¬ Str.ofString "clear" = Str.ofString "choose"), (by decide +kernel : ¬ Str.ofString "clear" = Str.ofString "risk"), rfl⟩))
      | drop bs => exact .inr (.inr (.inr ⟨(by decide +kernel : ¬ Str.ofString "drop" = Str.ofString "take"), (by decide +kernel : ¬ Str.ofString "drop" = Str.ofString "ask"), (by decide +kernel : ¬ Str.ofString "drop" = Str.ofString "choose"), (by decide +kernel : ¬ Str.ofString "drop" = Str.ofString "risk"), rfl⟩))
      | fault x => exact .inr (.inr (.inr ⟨(by decide +kernel : ¬ Str.ofString "fault" = Str.ofString "take"), (by decide +kernel : ¬ Str.ofString "fault" = Str.ofString "ask"), (by decide +kernel : ¬ Str.ofString "fault" = Str.ofString "choose"), (by decide +kernel : ¬ Str.ofString "fault" = Str.ofString "risk"), rfl⟩))
      | back => exact .inr (.inr (.inr ⟨(by decide +kernel : ¬ Str.ofString "back" = Str.ofString "take"), (by decide +kernel : ¬ Str.ofString "back" = Str.ofString "ask"), (by decide +kernel : ¬ Str.ofString "back" = Str.ofString "choose"), (by decide +kernel : ¬ Str.ofString "back" = Str.ofString "risk"), rfl⟩))
      | call x ca cg => exact .inr (.inr (.inr ⟨(by decide +kernel : ¬ Str.ofString "call" = Str.ofString "take"), (by decide +kernel : ¬ Str.ofString "call" = Str.ofString "ask"), (by decide +kernel : ¬ Str.ofString "call" = Str.ofString "choose"), (by decide +kernel : ¬ Str.ofString "call" = Str.ofString "risk"), rfl⟩))
      | choose rs => exact absurd ⟨rs, rfl⟩ nch
      | loop rr => exact .inr (.inr (.inr ⟨(by decide +kernel : ¬ Str.ofString "loop" = Str.ofString "take"), (by decide +kernel : ¬ Str.ofString "loop" = Str.ofString "ask"), (by decide +kernel : ¬ Str.ofString "loop" = Str.ofString "choose"), (by decide +kernel : ¬ Str.ofString "loop" = Str.ofString "risk"), rfl⟩))
      | out n => exact .inr (.inr (.inr ⟨(by decide +kernel : ¬ Str.ofString "out" = Str.ofString "take"), (by decide +kernel : ¬ Str.ofString "out" = Str.ofString "ask"), (by decide +kernel : ¬ Str.ofString "out" = Str.ofString "choose"), (by decide +kernel : ¬ Str.ofString "out" = Str.ofString "risk"), rfl⟩))) with ⟨e1, e2⟩ | ⟨e1, e2⟩ | ⟨e1, e2⟩ | ⟨n1, n2, n3, n4, e⟩
    · rw [e2] at q
      rw [e1] at hs
      exact ⟨.ref a, rfl, a, _, 0, _, rfl, rfl, hs, at0, rfl, _, rfl, sY (iteT ⟨9999, 1, rfl, rfl, q⟩)⟩
    · rw [e2] at q
      rw [e1] at hs
      exact ⟨.ref a, rfl, a, _, 0, _, rfl, rfl, hs, at0, rfl, _, rfl, sN (by decide +kernel) ⟨.ref a, rfl, a, _, 0, _, rfl, rfl, hs, at0, rfl, _, rfl, sY ⟨9999, 1, rfl, rfl, q⟩⟩⟩
    · rw [e2] at q
      rw [e1] at hs
      exact ⟨.ref a, rfl, a, _, 0, _, rfl, rfl, hs, at0, rfl, _, rfl, sN (by decide +kernel) ⟨.ref a, rfl, a, _, 0, _, rfl, rfl, hs, at0, rfl, _, rfl, sN (by decide +kernel) ⟨.ref a, rfl, a, _, 0, _, rfl, rfl, hs, at0, rfl, _, rfl, sN (by decide +kernel) ⟨.ref a, rfl, a, _, 0, _, rfl, rfl, hs, at0, rfl, _, rfl, sY q⟩⟩⟩⟩
    · rw [e] at q
      exact ⟨.ref a, rfl, a, _, 0, _, rfl, rfl, hs, at0, rfl, _, rfl, sN n1 ⟨.ref a, rfl, a, _, 0, _, rfl, rfl, hs, at0, rfl, _, rfl, sN n2 ⟨.ref a, rfl, a, _, 0, _, rfl, rfl, hs, at0, rfl, _, rfl, sN n3 ⟨.ref a, rfl, a, _, 0, _, rfl, rfl, hs, at0, rfl, _, rfl, sN n4 q⟩⟩⟩⟩
end
end K13

set_option maxHeartbeats 4000000
namespace K13
open PySem PySem.Spec PyProof.Rows L2 Kk
section
variable {P : Program} {w : World} {K : PySem.W.Frag} {mg : Str → Option Value} {base : Heap}
def spPut (K : PySem.W.Frag) (CF : Addr) : Sp := fun vs H Q _ => ∃ (fr b : Addr) (pl v : V) (W : Wo) (ans : Int) (kd Ws : List Str) (n : Nat) (f : Bq → Wv), vs = [v, .ref fr, .int ans] ∧ Tp K H v (wD W) ∧ isPut W = true ∧ FrH CF H fr b pl ∧ Hd K H b kd Ws n f ∧ Ws.length ≤ 20 ∧
  ∀ H' u, Ex [] H H' → Tp K H' u (wvD (valW f ans W)) → Q u H'
theorem ok_put {f CF fH : Addr} {fd fdH : FuncData} {k : Nat} (F : Fun K "put_by" "put_by" s_put f fd) (T : TF K mg CF) (GH : FnOk P w K mg base CX0 k fH fdH ["self", "box"] (spHolds K CF)) (mH : Meth K CF "holds" fH) (bH : Binds K fdH ["self", "box"] [])
    (g_MB : ∃ t, mg "MIXED_BY" = some (.int 10007 t)) (m_tuple : mg "tuple" = none) (m_sorted : mg "sorted" = none) (m_set : mg "set" = none) : FnOk P w K mg base CX0 (k + 1) f fd ["word", "frame", "answer"] (spPut K CF) := by
  obtain ⟨t1, g1⟩ := g_MB
  refine F.ok sc_put (fun vs H Q E h => ?_) (fun cdv A outer s H vs Q E hr h => ?_)
  · obtain ⟨fr, b, pl, v, W, ans, kd, Ws, n, f, rfl, _⟩ := h; rfl
  · obtain ⟨fr, b, pl, v, W, ans, kd, Ws, n, f, rfl, hw, hp, hF, hD, hW, q⟩ := h
    refine ⟨_, (pss_cons (ps_if (pt_cmpR op_eq (pe_ix ix_tup (pv 0) pe_int (fun _ _ => rfl)) pe_str (nomark _)) (pss_one (ps_ret (pe_tup (pa_cons (pv 2) (pa_cons (pe_tup (pa_cons (pe_ix ix_tup (pv 0) pe_int (fun _ _ => rfl)) pa_nil)) pa_nil))))) pss_nil)
      (pss_cons (ps_if (pt_cmpR op_eq (pe_ix ix_tup (pv 0) pe_int (fun _ _ => rfl)) pe_str (nomark _)) (pss_one (ps_ret (pe_tup (pa_cons (pv 2) (pa_cons (pe_tup pa_nil) pa_nil))))) pss_nil)
      (pss_cons (ps_if (pt_cmpR op_eq (pe_ix ix_tup (pv 0) pe_int (fun _ _ => rfl)) pe_str (nomark _)) (pss_one (ps_ret (pe_tup (pa_cons (pe_ix ix_tup (pv 0) pe_int (fun _ _ => rfl)) (pa_cons (pe_tup pa_nil) pa_nil))))) pss_nil)
      (pss_cons (ps_asg (pe_meth (pv 1) T.cl mH GH hr bH .nil pass0 (pa_cons (pe_ix ix_tup (pv 0) pe_int (fun _ _ => rfl)) pa_nil)) (pg_tup rfl (pgs_cons (pg_name (i := 3) sc_put.nd rfl (.inl rfl)) (pgs_cons (pg_name (i := 4) sc_put.nd rfl (.inl rfl)) pgs_nil))))
      (pss_cons (ps_if (pt_cmpR op_eq (pe_ix ix_tup (pv 0) pe_int (fun _ _ => rfl)) pe_str (nomark _)) (pss_one (ps_ret (pe_tup (pa_cons (pv 3) (pa_cons (pv 4) pa_nil))))) pss_nil)
      (pss_cons (ps_if (pt_cmpR op_eq (pe_ix ix_tup (pv 0) pe_int (fun _ _ => rfl)) pe_str (nomark _)) (pss_one (ps_ret (pe_tup (pa_cons (pe_op op_mod (pv 3) pe_int) (pa_cons (pe_tup pa_nil) pa_nil))))) pss_nil)
      (pss_cons (ps_asg (pe_meth (pv 1) T.cl mH GH hr bH .nil pass0 (pa_cons (pe_ix ix_tup (pv 0) pe_int (fun _ _ => rfl)) pa_nil)) (pg_tup rfl (pgs_cons (pg_name (i := 5) sc_put.nd rfl (.inl rfl)) (pgs_cons (pg_name (i := 6) sc_put.nd rfl (.inl rfl)) pgs_nil))))
      (pss_one (ps_ret (pe_tup (pa_cons (pe_op op_mod (pe_op op_add (pv 3) (pe_op op_mul pe_int (pv 5))) (pe_glob (v := .int 10007) rfl g1 ⟨_, rfl⟩)) (pa_cons (pe_callTy call_tuple_of (by rfl) m_tuple (by decide +kernel) (pa_cons (pe_callB (call_sortSetS rfl) (by rfl) m_sorted (by decide +kernel) (pa_cons (pe_callTy (call_setT rfl) (by rfl) m_set (by decide +kernel) (pa_cons (pe_op op_catA (pv 4) (pv 6)) pa_nil)) pa_nil)) pa_nil)) pa_nil)))))))))))), ?_⟩
    obtain ⟨a, r, rfl, hs, hr1⟩ := word_in hw
    obtain ⟨dx, fs, hf1, hf2, hf3, hf4, hf5⟩ := id hF
    have two : ∀ (x : Int) (H1 : Hp), Ex [] H H1 → ∀ Z, H1 Z = none → ∀ T2, (upd H1 Z (.tup [])) T2 = none → Tp K (upd (upd H1 Z (.tup [])) T2 (.tup [.int x, .ref Z])) (.ref T2) (wvD (x, [])) := fun x H1 x1 Z nZ T2 nT =>
      wv_mk (ws := []) (.of upd_same) (.of ((Ex.new nT (xs := [])).tup upd_same))
    cases W with
    | tell b => cases hp
    | wipe b => cases hp
    | clear b => cases hp
    | drop b => cases hp
    | risk b => cases hp
    | fault b => cases hp
    | back => cases hp
    | call b ca cg => cases hp
    | choose rs => cases hp
    | loop rr => cases hp
    | out n => cases hp
    | take b s =>
      obtain ⟨r2, rfl, hr2⟩ := one_s hr1
      obtain ⟨r3, rfl, hr3⟩ := one_s hr2
      refine ⟨.ref a, rfl, a, _, 0, _, rfl, rfl, hs, at0, rfl, _, rfl, sY ?_⟩
      refine ⟨.int ans, rfl, .ref a, rfl, a, _, 2, _, rfl, rfl, hs, at2, l1, fun Z nZ => ⟨l2, fun T2 nT => ?_⟩⟩
      have x1 : Ex [] H (upd H Z (.tup [.str s])) := .new nZ
      have x2 : Ex [] (upd H Z (.tup [.str s])) (upd (upd H Z (.tup [.str s])) T2 (.tup [.int ans, .ref Z])) := .new nT
      exact q _ _ (x1.trans x2) (wv_mk (ws := [s]) (.of upd_same) (.of (x2.tup upd_same)))
    | ask b =>
      refine ⟨.ref a, rfl, a, _, 0, _, rfl, rfl, hs, at0, rfl, _, rfl, sN (show ¬ Str.ofString "ask" = Str.ofString "take" by decide +kernel) ?_⟩
      refine ⟨.ref a, rfl, a, _, 0, _, rfl, rfl, hs, at0, rfl, _, rfl, sY ?_⟩
      refine ⟨.int ans, rfl, l0, fun Z nZ => ⟨l2, fun T2 nT => ?_⟩⟩
      exact q _ _ ((Ex.new nZ).trans (.new nT)) (two ans H .refl Z nZ T2 nT)
    | number b n =>
      obtain ⟨r2, rfl, hr2⟩ := one_s hr1
      obtain ⟨r3, rfl, hr3⟩ := one_i hr2
      refine ⟨.ref a, rfl, a, _, 0, _, rfl, rfl, hs, at0, rfl, _, rfl, sN (show ¬ Str.ofString "number" = Str.ofString "take" by decide +kernel) ?_⟩
      refine ⟨.ref a, rfl, a, _, 0, _, rfl, rfl, hs, at0, rfl, _, rfl, sN (show ¬ Str.ofString "number" = Str.ofString "ask" by decide +kernel) ?_⟩
      refine ⟨.ref a, rfl, a, _, 0, _, rfl, rfl, hs, at0, rfl, _, rfl, sY ?_⟩
      refine ⟨.ref a, rfl, a, _, 2, _, rfl, rfl, hs, at2, l0, fun Z nZ => ⟨l2, fun T2 nT => ?_⟩⟩
      exact q _ _ ((Ex.new nZ).trans (.new nT)) (two n H .refl Z nZ T2 nT)
    | copy b c =>
      obtain ⟨r2, rfl, hr2⟩ := one_s hr1
      obtain ⟨r3, rfl, hr3⟩ := one_s hr2
      refine ⟨.ref a, rfl, a, _, 0, _, rfl, rfl, hs, at0, rfl, _, rfl, sN (show ¬ Str.ofString "copy" = Str.ofString "take" by decide +kernel) ?_⟩
      refine ⟨.ref a, rfl, a, _, 0, _, rfl, rfl, hs, at0, rfl, _, rfl, sN (show ¬ Str.ofString "copy" = Str.ofString "ask" by decide +kernel) ?_⟩
      refine ⟨.ref a, rfl, a, _, 0, _, rfl, rfl, hs, at0, rfl, _, rfl, sN (show ¬ Str.ofString "copy" = Str.ofString "number" by decide +kernel) ?_⟩
      refine ⟨.ref fr, rfl, fr, dx, fs, rfl, hf1, hf4, .ref a, rfl, a, _, 2, _, rfl, rfl, hs, at2, fr, _, pl, .str c, c, kd, Ws, n, f, rfl, hF, hD, rfl, fun z hz => ?_⟩
      obtain ⟨z1, z2, rfl, hz1, hz2⟩ := wv_inv hz
      refine ⟨z1, _, rfl, hz1, rfl, _, _, rfl, _, _, rfl, rfl, ?_⟩
      refine ⟨.ref a, rfl, a, _, 0, _, rfl, rfl, hs, at0, rfl, _, rfl, sY ?_⟩
      refine ⟨.int (f c).1, rfl, .ref z2, rfl, l2, fun T2 nT => ?_⟩
      have x2 : Ex [] H (upd H T2 (.tup [.int (f c).1, .ref z2])) := .new nT
      exact q _ _ x2 (wv_mk (ws := (f c).2) (.of upd_same) (x2.seqT hz2))
    | opn b c =>
      obtain ⟨r2, rfl, hr2⟩ := one_s hr1
      obtain ⟨r3, rfl, hr3⟩ := one_s hr2
      refine ⟨.ref a, rfl, a, _, 0, _, rfl, rfl, hs, at0, rfl, _, rfl, sN (show ¬ Str.ofString "open" = Str.ofString "take" by decide +kernel) ?_⟩
      refine ⟨.ref a, rfl, a, _, 0, _, rfl, rfl, hs, at0, rfl, _, rfl, sN (show ¬ Str.ofString "open" = Str.ofString "ask" by decide +kernel) ?_⟩
      refine ⟨.ref a, rfl, a, _, 0, _, rfl, rfl, hs, at0, rfl, _, rfl, sN (show ¬ Str.ofString "open" = Str.ofString "number" by decide +kernel) ?_⟩
      refine ⟨.ref fr, rfl, fr, dx, fs, rfl, hf1, hf4, .ref a, rfl, a, _, 2, _, rfl, rfl, hs, at2, fr, _, pl, .str c, c, kd, Ws, n, f, rfl, hF, hD, rfl, fun z hz => ?_⟩
      obtain ⟨z1, z2, rfl, hz1, hz2⟩ := wv_inv hz
      refine ⟨z1, _, rfl, hz1, rfl, _, _, rfl, _, _, rfl, rfl, ?_⟩
      refine ⟨.ref a, rfl, a, _, 0, _, rfl, rfl, hs, at0, rfl, _, rfl, sN (show ¬ Str.ofString "open" = Str.ofString "copy" by decide +kernel) ?_⟩
      refine ⟨.ref a, rfl, a, _, 0, _, rfl, rfl, hs, at0, rfl, _, rfl, sY ?_⟩
      refine ⟨.int (f c).1, rfl, (f c).1, 2, rfl, rfl, (by show (0 : Int) < 2; decide), l0, fun Z nZ => ⟨l2, fun T2 nT => ?_⟩⟩
      exact q _ _ ((Ex.new nZ).trans (.new nT)) (two ((f c).1 % 2) H .refl Z nZ T2 nT)
    | mix b c d =>
      obtain ⟨r2, rfl, hr2⟩ := one_s hr1
      obtain ⟨r3, rfl, hr3⟩ := one_s hr2
      obtain ⟨r4, rfl, hr4⟩ := one_s hr3
      refine ⟨.ref a, rfl, a, _, 0, _, rfl, rfl, hs, at0, rfl, _, rfl, sN (show ¬ Str.ofString "mix" = Str.ofString "take" by decide +kernel) ?_⟩
      refine ⟨.ref a, rfl, a, _, 0, _, rfl, rfl, hs, at0, rfl, _, rfl, sN (show ¬ Str.ofString "mix" = Str.ofString "ask" by decide +kernel) ?_⟩
      refine ⟨.ref a, rfl, a, _, 0, _, rfl, rfl, hs, at0, rfl, _, rfl, sN (show ¬ Str.ofString "mix" = Str.ofString "number" by decide +kernel) ?_⟩
      refine ⟨.ref fr, rfl, fr, dx, fs, rfl, hf1, hf4, .ref a, rfl, a, _, 2, _, rfl, rfl, hs, at2, fr, _, pl, .str c, c, kd, Ws, n, f, rfl, hF, hD, rfl, fun z hz => ?_⟩
      obtain ⟨z1, z2, rfl, hz1, hz2⟩ := wv_inv hz
      refine ⟨z1, _, rfl, hz1, rfl, _, _, rfl, _, _, rfl, rfl, ?_⟩
      refine ⟨.ref a, rfl, a, _, 0, _, rfl, rfl, hs, at0, rfl, _, rfl, sN (show ¬ Str.ofString "mix" = Str.ofString "copy" by decide +kernel) ?_⟩
      refine ⟨.ref a, rfl, a, _, 0, _, rfl, rfl, hs, at0, rfl, _, rfl, sN (show ¬ Str.ofString "mix" = Str.ofString "open" by decide +kernel) ?_⟩
      refine ⟨.ref fr, rfl, fr, dx, fs, rfl, hf1, hf4, .ref a, rfl, a, _, 3, _, rfl, rfl, hs, at3, fr, _, pl, .str d, d, kd, Ws, n, f, rfl, hF, hD, rfl, fun y hy => ?_⟩
      obtain ⟨y1, y2, rfl, hy1, hy2⟩ := wv_inv hy
      refine ⟨y1, _, rfl, hy1, rfl, _, _, rfl, _, _, rfl, rfl, ?_⟩
      obtain ⟨kvs, _, _, _, _, _, _, h7⟩ := hD
      have lc := sub_len _ Ws (h7 c).1 (h7 c).2
      have ld := sub_len _ Ws (h7 d).1 (h7 d).2
      refine ⟨.int (f c).1, rfl, .int (f d).1, rfl, 2, (f d).1, rfl, rfl, .inl ⟨by decide, by decide⟩, (f c).1, _, rfl, rfl, _, 10007, rfl, rfl, (by show (0 : Int) < 10007; decide), .ref z2, rfl, .ref y2, rfl, ?_⟩
      refine tp_cat (K := K) hz2 hy2 (TpAll.strs _) (TpAll.strs _) (by rw [List.length_map, List.length_map]; omega) fun p1 H1 zs x1 hs1 ht1 => ?_
      rw [← List.map_append] at ht1
      rw [strs_inv ht1] at hs1
      refine ⟨p1, (f c).2 ++ (f d).2, rfl, hs1, by rw [List.length_append]; omega, fun p2 n2 => ?_⟩
      have x2 : Ex [] H1 (upd H1 p2 (SetS w p2 ((f c).2 ++ (f d).2))) := .new n2
      refine ⟨p2, (f c).2 ++ (f d).2, (f c).2 ++ (f d).2, rfl, upd_same, fun x hx => hx, by rw [List.length_append]; omega, fun ys p3 s1 s2 s3 n3 => ?_⟩
      have x3 : Ex [] (upd H1 p2 (SetS w p2 ((f c).2 ++ (f d).2))) (upd (upd H1 p2 (SetS w p2 ((f c).2 ++ (f d).2))) p3 (.lst (ys.map V.str))) := .new n3
      refine ⟨p3, ys.map V.str, rfl, .inl ⟨.of upd_same, fun p4 n4 => ?_⟩⟩
      have x4 : Ex [] (upd (upd H1 p2 (SetS w p2 ((f c).2 ++ (f d).2))) p3 (.lst (ys.map V.str))) (upd (upd (upd H1 p2 (SetS w p2 ((f c).2 ++ (f d).2))) p3 (.lst (ys.map V.str))) p4 (.tup (ys.map V.str))) := .new n4
      refine ⟨(by show 2 ≤ sizeLine; decide), fun T2 nT => ?_⟩
      have eu : sortU ((f c).2 ++ (f d).2) = ys := SU.eq ⟨s1, s2, s3⟩
      refine q _ _ ((((x1.trans x2).trans x3).trans x4).trans (.new nT)) ?_
      show Tp K _ _ (wvD (((f c).1 + 2 * (f d).1) % 10007, sortU ((f c).2 ++ (f d).2)))
      rw [eu]
      exact wv_mk (.of upd_same) (.of ((Ex.new nT (xs := [])).tup upd_same))
end
end K13

set_option maxHeartbeats 4000000
namespace K13
open PySem PySem.Spec PyProof.Rows L2 Kk
abbrev s_leave : Stmt := inClass (topS 28) 4
abbrev n_leave : List Str := ["self", "frame", "boxes", "box", "worths"]
theorem sc_leave : FnScope n_leave ["self", "frame", "boxes"] (defScope s_leave) := ⟨rfl, rfl, rfl, by decide +kernel, rfl, by decide +kernel, by decide +kernel⟩
/-! what is emptied -/
def emW : Wo → Bq → Bool
  | .wipe b, q => decide (q = b)
  | .clear x, q => Txt.startswith q (x ++ dotS)
  | .drop bs, q => decide (q ∈ bs)
  | _, _ => false
def emF (f : Bq → Wv) (W : Wo) : Bq → Wv := fun q => if emW W q = true then (0, []) else f q
/-- the texts of a list, rising -/
noncomputable def srtS (bs : List Str) : List Str := Classical.epsilon fun ys => ys.Perm bs ∧ ys.Pairwise leS
theorem srtS_eq {bs ys : List Str} (h : ys.Perm bs) (g : sortedS ys = true) : srtS bs = ys := by
  have e : ∃ ys : List Str, ys.Perm bs ∧ ys.Pairwise leS := ⟨ys, h, pw_sorted g⟩
  have s := Classical.epsilon_spec e
  exact perm_uniq (fun a b => leS_anti) s.2 (pw_sorted g) (s.1.trans h.symm)
def plcD (x : Str) (n : Nat) : PyData := .tuple [.str x, .int n]
def entD (pd : PyData) (f : Bq → Wv) (q : Str) : PyData := .tuple [pd, .str q, .tuple ((f q).2.map .str)]
noncomputable def leftB (n : PyData) (f : Bq → Wv) (bs : List Str) : List PyData := ((srtS bs).filter fun q => decide (¬ (f q).2 = [])).map (entD n f)
theorem inV_strs (a : Str) : ∀ bs : List Str, inV (.str a) (bs.map V.str) = decide (a ∈ bs)
  | [] => by simp [inV]
  | b :: bs => by
    have ih := inV_strs a bs
    unfold inV at ih ⊢
    rw [List.map_cons, List.any_cons, ih]
    have ev : eqV (V.str b) (V.str a) = decide (b = a) := by
      show (b == a) = _
      by_cases e : b = a
      · subst e; simp
      · rw [decide_eq_false e]
        cases z : b == a with
        | false => rfl
        | true => exact absurd (eq_of_beq z) e
    rw [ev]
    by_cases e : a = b
    · subst e; simp
    · have e' : ¬ b = a := fun z => e z.symm
      simp [e, e']
theorem strs_flat (bs : List Str) : (bs.map V.str).all flatV = true := by
  rw [List.all_eq_true]
  intro x m
  obtain ⟨s, _, e⟩ := List.mem_map.mp m
  rw [← e]; rfl
section
variable {P : Program} {w : World} {K : PySem.W.Frag} {mg : Str → Option Value} {base : Heap}
def smallW : Wo → Prop
  | .clear x => x.length ≤ 1000
  | _ => True
def spEmpties (K : PySem.W.Frag) : Sp := fun vs H Q _ => ∃ (v : V) (W : Wo) (q : Bq), vs = [v, .str q] ∧ Tp K H v (wD W) ∧ smallW W ∧ Q (.bl (emW W q)) H
theorem ok_empties {f f1 : Addr} {fd d1 : FuncData} {k : Nat} (F : Fun K "empties" "empties" s_empties f fd) (C_in_record : Cl P w K mg base k "in_record" ["box", "name"] spRec f1 d1) : FnOk P w K mg base CX0 (k + 1) f fd ["word", "box"] (spEmpties K) := by
  refine F.ok sc_empties (fun vs H Q E h => ?_) (fun cdv A outer s H vs Q E hr h => ?_)
  · obtain ⟨v, W, q, rfl, _⟩ := h; rfl
  · obtain ⟨v, W, bq, rfl, hw, sm, q⟩ := h
    refine ⟨_, (pss_cons (ps_if (pt_cmpR op_eq (pe_ix ix_tup (pv 0) pe_int (fun _ _ => rfl)) pe_str (nomark _)) (pss_one (ps_ret (pe_cmpR op_eq (pv 1) (pe_ix ix_tup (pv 0) pe_int (fun _ _ => rfl)) (nomark _)))) pss_nil)
      (pss_cons (ps_if (pt_cmpR op_eq (pe_ix ix_tup (pv 0) pe_int (fun _ _ => rfl)) pe_str (nomark _)) (pss_one (ps_ret (pe_call C_in_record.g hr (by rfl) C_in_record.m C_in_record.k C_in_record.b .nil pass0 (pa_cons (pv 1) (pa_cons (pe_ix ix_tup (pv 0) pe_int (fun _ _ => rfl)) pa_nil))))) pss_nil)
      (pss_one (ps_ret (pe_and (pe_cmpR op_eq (pe_ix ix_tup (pv 0) pe_int (fun _ _ => rfl)) pe_str (nomark _)) (pe_one (pe_cmpR op_in_seq (pv 1) (pe_ix ix_tup (pv 0) pe_int (fun _ _ => rfl)) rfl))))))), ?_⟩
    obtain ⟨a, r, rfl, hs, hr1⟩ := word_in hw
    have key : (¬ kW W = Str.ofString "wipe" ∧ ¬ kW W = Str.ofString "clear" ∧ ¬ kW W = Str.ofString "drop" ∧ emW W bq = false) ∨ (∃ b, W = .wipe b) ∨ (∃ x, W = .clear x) ∨ ∃ bs, W = .drop bs := by
      cases W with
      | wipe b => exact .inr (.inl ⟨b, rfl⟩)
      | clear x => exact .inr (.inr (.inl ⟨x, rfl⟩))
      | drop bs => exact .inr (.inr (.inr ⟨bs, rfl⟩))
      | take b s => exact .inl ⟨(show ¬ Str.ofString "take" = Str.ofString "wipe" by decide +kernel), (show ¬ Str.ofString "take" = Str.ofString "clear" by decide +kernel), (show ¬ Str.ofString "take" = Str.ofString "drop" by decide +kernel), rfl⟩
      | ask b => exact .inl ⟨(show ¬ Str.ofString "ask" = Str.ofString "wipe" by decide +kernel), (show ¬ Str.ofString "ask" = Str.ofString "clear" by decide +kernel), (show ¬ Str.ofString "ask" = Str.ofString "drop" by decide +kernel), rfl⟩
      | number b n => exact .inl ⟨(show ¬ Str.ofString "number" = Str.ofString "wipe" by decide +kernel), (show ¬ Str.ofString "number" = Str.ofString "clear" by decide +kernel), (show ¬ Str.ofString "number" = Str.ofString "drop" by decide +kernel), rfl⟩
      | copy b c => exact .inl ⟨(show ¬ Str.ofString "copy" = Str.ofString "wipe" by decide +kernel), (show ¬ Str.ofString "copy" = Str.ofString "clear" by decide +kernel), (show ¬ Str.ofString "copy" = Str.ofString "drop" by decide +kernel), rfl⟩
      | mix b c d => exact .inl ⟨(show ¬ Str.ofString "mix" = Str.ofString "wipe" by decide +kernel), (show ¬ Str.ofString "mix" = Str.ofString "clear" by decide +kernel), (show ¬ Str.ofString "mix" = Str.ofString "drop" by decide +kernel), rfl⟩
      | opn b c => exact .inl ⟨(show ¬ Str.ofString "open" = Str.ofString "wipe" by decide +kernel), (show ¬ Str.ofString "open" = Str.ofString "clear" by decide +kernel), (show ¬ Str.ofString "open" = Str.ofString "drop" by decide +kernel), rfl⟩
      | tell b => exact .inl ⟨(show ¬ Str.ofString "tell" = Str.ofString "wipe" by decide +kernel), (show ¬ Str.ofString "tell" = Str.ofString "clear" by decide +kernel), (show ¬ Str.ofString "tell" = Str.ofString "drop" by decide +kernel), rfl⟩
      | risk x => exact .inl ⟨(show ¬ Str.ofString "risk" = Str.ofString "wipe" by decide +kernel), (show ¬ Str.ofString "risk" = Str.ofString "clear" by decide +kernel), (show ¬ Str.ofString "risk" = Str.ofString "drop" by decide +kernel), rfl⟩
      | fault x => exact .inl ⟨(show ¬ Str.ofString "fault" = Str.ofString "wipe" by decide +kernel), (show ¬ Str.ofString "fault" = Str.ofString "clear" by decide +kernel), (show ¬ Str.ofString "fault" = Str.ofString "drop" by decide +kernel), rfl⟩
      | back => exact .inl ⟨(show ¬ Str.ofString "back" = Str.ofString "wipe" by decide +kernel), (show ¬ Str.ofString "back" = Str.ofString "clear" by decide +kernel), (show ¬ Str.ofString "back" = Str.ofString "drop" by decide +kernel), rfl⟩
      | call x ca cg => exact .inl ⟨(show ¬ Str.ofString "call" = Str.ofString "wipe" by decide +kernel), (show ¬ Str.ofString "call" = Str.ofString "clear" by decide +kernel), (show ¬ Str.ofString "call" = Str.ofString "drop" by decide +kernel), rfl⟩
      | choose rs => exact .inl ⟨(show ¬ Str.ofString "choose" = Str.ofString "wipe" by decide +kernel), (show ¬ Str.ofString "choose" = Str.ofString "clear" by decide +kernel), (show ¬ Str.ofString "choose" = Str.ofString "drop" by decide +kernel), rfl⟩
      | loop rr => exact .inl ⟨(show ¬ Str.ofString "loop" = Str.ofString "wipe" by decide +kernel), (show ¬ Str.ofString "loop" = Str.ofString "clear" by decide +kernel), (show ¬ Str.ofString "loop" = Str.ofString "drop" by decide +kernel), rfl⟩
      | out n => exact .inl ⟨(show ¬ Str.ofString "out" = Str.ofString "wipe" by decide +kernel), (show ¬ Str.ofString "out" = Str.ofString "clear" by decide +kernel), (show ¬ Str.ofString "out" = Str.ofString "drop" by decide +kernel), rfl⟩
    rcases key with ⟨n1, n2, n3, e⟩ | ⟨b, rfl⟩ | ⟨x, rfl⟩ | ⟨bs, rfl⟩
    · rw [e] at q
      exact ⟨.ref a, rfl, a, _, 0, _, rfl, rfl, hs, at0, rfl, _, rfl, sN n1 ⟨.ref a, rfl, a, _, 0, _, rfl, rfl, hs, at0, rfl, _, rfl, sN n2 ⟨.ref a, rfl, a, _, 0, _, rfl, rfl, hs, at0, rfl, _, rfl, sN n3 q⟩⟩⟩
    · obtain ⟨r2, rfl, hr2⟩ := one_s hr1
      refine ⟨.ref a, rfl, a, _, 0, _, rfl, rfl, hs, at0, rfl, _, rfl, sY ⟨.str bq, rfl, .ref a, rfl, a, _, 1, _, rfl, rfl, hs, at1, rfl, ?_⟩⟩
      have e : decide (V.str bq = V.str b) = emW (.wipe b) bq := by
        show _ = decide (bq = b)
        rw [decide_eq_decide]
        exact ⟨fun z => V.str.inj z, fun z => by rw [z]⟩
      rw [e]; exact q
    · obtain ⟨r2, rfl, hr2⟩ := one_s hr1
      exact ⟨.ref a, rfl, a, _, 0, _, rfl, rfl, hs, at0, rfl, _, rfl, sN (show ¬ Str.ofString "clear" = Str.ofString "wipe" by decide +kernel) ⟨.ref a, rfl, a, _, 0, _, rfl, rfl, hs, at0, rfl, _, rfl, sY ⟨.str bq, rfl, .ref a, rfl, a, _, 1, _, rfl, rfl, hs, at1, bq, x, rfl, sm, q⟩⟩⟩
    · cases hr1 with
      | cons h1 h2 =>
        cases h1 with
        | tup hs2 ha2 =>
          rename_i c ys
          rw [strs_inv ha2] at hs2
          refine ⟨.ref a, rfl, a, _, 0, _, rfl, rfl, hs, at0, rfl, _, rfl, sN (show ¬ Str.ofString "drop" = Str.ofString "wipe" by decide +kernel) ⟨.ref a, rfl, a, _, 0, _, rfl, rfl, hs, at0, rfl, _, rfl, sN (show ¬ Str.ofString "drop" = Str.ofString "clear" by decide +kernel) ⟨.ref a, rfl, a, _, 0, _, rfl, rfl, hs, at0, rfl, _, rfl, sY ?_⟩⟩⟩
          refine ⟨.str bq, rfl, .ref a, rfl, a, _, 1, _, rfl, rfl, hs, at1, c, _, rfl, .inr hs2, rfl, strs_flat bs, ?_⟩
          show Q (.bl (inV (.str bq) (bs.map V.str))) H
          rw [inV_strs]; exact q
/-- what is left by these boxes -/
def spLeave (K : PySem.W.Frag) (CF CR : Addr) : Sp := fun vs H Q _ => ∃ (nw fr b lf bx : Addr) (pl : V) (bs kd Ws : List Str) (n : Nat) (i : PyData) (f : Bq → Wv) (ls : List V) (ds : List PyData), vs = [.ref nw, .ref fr, .ref bx] ∧
  (∃ dx fs, H nw = some (.ins CR dx fs) ∧ fs.lookup ("left" : Str) = some (.ref lf)) ∧ H lf = some (.lst ls) ∧ TpAll K H ls ds ∧ ds.length ≤ 100000 ∧ (SqT K H bx (bs.map V.str) ∨ SqL K H bx (bs.map V.str)) ∧ bs.length < 64 ∧ FrH CF H fr b pl ∧ Tp K H pl i ∧ Hd K H b kd Ws n f ∧
  ∀ H' ls', Ex [lf] H H' → H' lf = some (.lst ls') → TpAll K H' ls' (ds ++ leftB i f bs) → Q .non H'
theorem ok_leave {f CF CR fH : Addr} {fd fdH : FuncData} {k : Nat} (F : Fun K "leave" "Run.leave" s_leave f fd) (T : TF K mg CF) (GH : FnOk P w K mg base CX0 k fH fdH ["self", "box"] (spHolds K CF)) (mH : Meth K CF "holds" fH) (bH : Binds K fdH ["self", "box"] [])
    (clR : Cls K CR) (nL : NoAttr K CR "left") (m_sorted : mg "sorted" = none) (m_len : mg "len" = none) : FnOk P w K mg base CX0 (k + 1) f fd ["self", "frame", "boxes"] (spLeave K CF CR) := by
  refine F.ok sc_leave (fun vs H Q E h => ?_) (fun cdv A outer s H vs Q E hr h => ?_)
  · obtain ⟨nw, fr, b, lf, bx, pl, bs, kd, Ws, n, i, f, ls, ds, rfl, _⟩ := h; rfl
  · obtain ⟨nw, fr, b, lf, bx, pl, bs, kd, Ws, n, i0, f, ls, ds, rfl, ⟨dR, fR, hR, hRl⟩, hlf, tls, lds, hbx, lbs, hF, tpl, hD, q⟩ := h
    refine ⟨_, (pss_one (ps_for PassesOwn.never rfl (pi_list (pe_callB (cr_sortTS (K := K) rfl) (by rfl) m_sorted (by decide +kernel) (pa_cons (pv 2) pa_nil))) (pg_name (i := 3) sc_leave.nd rfl (.inl rfl))
      (pss_cons (ps_set (i := 4) sc_leave.nd rfl (.inl rfl) (pe_ix ix_tup (pe_meth (pv 1) T.cl mH GH hr bH .nil pass0 (pa_cons (pv 3) pa_nil)) pe_int (fun _ _ => rfl)))
      (pss_one (ps_if (pt_cmpR op_gt (pe_callB call_len_seq (by rfl) m_len PySem.boot_len (pa_cons (pv 4) pa_nil)) pe_int (nomark _)) (pss_one (ps_expr (pe_bm PySem.F.plainAttrs_list PySem.F.slot_list_append PySem.F.type_list_append mt_append (pe_fld (pv 0) rfl) (pa_cons (pe_tup (pa_cons (pe_fld (pv 1) rfl) (pa_cons (pv 3) (pa_cons (pv 4) pa_nil)))) pa_nil)))) pss_nil))))), ?_⟩
    obtain ⟨dx, fs, hf1, hf2, hf3, hf4, hf5⟩ := id hF
    obtain ⟨kvs, k1, _⟩ := id hD
    have lfb : b ≠ lf := ne_of k1 hlf (by intro z; cases z)
    have lff : fr ≠ lf := ne_of hf1 hlf (by intro z; cases z)
    have lfn : nw ≠ lf := ne_of hR hlf (by intro z; cases z)
    refine ⟨.ref bx, rfl, bx, bs, rfl, hbx, lbs, fun ys L pm srt nL2 => ?_⟩
    have xL : Ex [] H (upd H L (.lst (ys.map V.str))) := .new nL2
    have Llf : L ≠ lf := fun z => by rw [z, hlf] at nL2; cases nL2
    have es := srtS_eq pm srt
    have ly : ys.length < 64 := by rw [pm.length_eq]; exact lbs
    refine ⟨L, rfl, ⟨_, .of upd_same⟩, for_list (a := L) (xs := ys.map V.str) (fun i σ H2 => ∃ z3 z4, σ = [some (.ref nw), some (.ref fr), some (.ref bx), z3, z4] ∧ Ex [lf] (upd H L (.lst (ys.map V.str))) H2 ∧ H2 L = some (.lst (ys.map V.str)) ∧ ∃ ls2, H2 lf = some (.lst ls2) ∧
      TpAll K H2 ls2 (ds ++ ((ys.take i).filter fun q => decide (¬ (f q).2 = [])).map (entD i0 f))) ?_ ?_ ?_ ?_⟩
    · refine ⟨_, _, rfl, .refl, upd_same, ls, xL.lst hlf, ?_⟩
      rw [List.take_zero, List.filter_nil, List.map_nil, List.append_nil]
      exact tls.ex xL
    · rintro i σ H2 _ ⟨z3, z4, _, _, hL, _⟩
      exact .of hL
    · rintro i x σ H2 hx ⟨z3, z4, rfl, x2, hL2, ls2, hl2, tl2⟩
      rw [List.getElem?_map] at hx
      cases hyi : ys[i]? with
      | none => rw [hyi] at hx; cases hx
      | some y =>
        rw [hyi] at hx
        cases hx
        have il : i < ys.length := (List.getElem?_eq_some_iff.mp hyi).1
        have x02 : Ex [lf] H H2 := (xL.mono (by simp)).trans x2
        have hF2 := hF.ex x02 (by simpa using lff)
        have hD2 := hD.ex x02 (by simpa using lfb)
        obtain ⟨dx2, fs2, g1, g2, g3, g4, g5⟩ := id hF2
        refine ⟨.ref fr, rfl, fr, dx2, fs2, rfl, g1, g4, .str y, rfl, fr, b, pl, .str y, y, kd, Ws, n, f, rfl, hF2, hD2, rfl, fun z hz => ?_⟩
        obtain ⟨z1, z2, rfl, hz1, hz2⟩ := wv_inv hz
        refine ⟨z1, _, 1, _, rfl, rfl, hz1, at1, ?_⟩
        refine ⟨.ref z2, rfl, z2, _, rfl, .inr hz2, _, 0, rfl, rfl, _, rfl, ite2 (fun e => ?_) fun e => ?_⟩
        · have ne : ¬ (f y).2 = [] := fun z => by
            rw [z] at e
            exact absurd (of_decide_eq_true e) (by decide)
          refine ⟨.ref nw, rfl, nw, CR, dR, fR, .ref lf, rfl, x02.a nw _ (by simpa using lfn) hR (fun _ z => by cases z), clR, nL, hRl, .inl ⟨rfl, _, .of hl2⟩, .ref fr, rfl, fr, CF, dx2, fs2, pl, rfl, g1, T.cl, T.nP, g3, .str y, rfl, .ref z2, rfl, (by show 3 ≤ sizeLine; decide), fun t nt => ?_⟩
          have xt : Ex [] H2 (upd H2 t (.tup [pl, .str y, .ref z2])) := .new nt
          have ltl := tl2.len
          rw [List.length_append, List.length_map] at ltl
          have lfil : ((ys.take i).filter fun q => decide (¬ (f q).2 = [])).length ≤ i := Nat.le_trans (List.length_filter_le _ _) (by rw [List.length_take]; exact Nat.min_le_left _ _)
          refine ⟨lf, _, _, rfl, rfl, xt.lst hl2, by rw [sizeLine_eq]; omega, ?_⟩
          have x3 : Ex [lf] (upd H2 t (.tup [pl, .str y, .ref z2])) (upd (upd H2 t (.tup [pl, .str y, .ref z2])) lf (.lst (ls2 ++ [.ref t]))) := .put (xt.lst hl2) nt_lst (by simp)
          have x23 := (xt.mono (ys := [lf]) (by simp)).trans x3
          refine ⟨_, _, rfl, x2.trans x23, x23.lst hL2 (by simpa using Llf), _, upd_same, ?_⟩
          rw [List.take_add_one, hyi]
          show TpAll K _ _ (ds ++ ((ys.take i ++ [y]).filter fun q => decide (¬ (f q).2 = [])).map (entD i0 f))
          rw [List.filter_append, List.filter_cons_of_pos (by rw [decide_eq_true ne]), List.filter_nil, List.map_append, ← List.append_assoc]
          refine (tl2.ex x23).app (.cons ?_ .nil)
          exact .tup (.of (x3.tup upd_same)) (.cons ((tpl.ex x02).ex x23) (.cons (.str _) (.cons (.tup (x23.seqT hz2) (TpAll.strs _)) .nil)))
        · have ne : (f y).2 = [] := by
            cases hl : (f y).2 with
            | nil => rfl
            | cons a l =>
              rw [hl] at e
              exact absurd (decide_eq_true (by simp)) e
          refine ⟨_, _, rfl, x2, hL2, ls2, hl2, ?_⟩
          rw [List.take_add_one, hyi]
          show TpAll K _ _ (ds ++ ((ys.take i ++ [y]).filter fun q => decide (¬ (f q).2 = [])).map (entD i0 f))
          rw [List.filter_append, List.filter_cons_of_neg (by simp [ne]), List.filter_nil, List.append_nil]
          exact tl2
    · rintro σ H2 ⟨z3, z4, rfl, x2, hL2, ls2, hl2, tl2⟩
      rw [List.length_map, List.take_length] at tl2
      refine q H2 ls2 ((xL.mono (by simp)).trans x2) hl2 ?_
      unfold leftB
      rw [es]; exact tl2
end
end K13

set_option maxHeartbeats 4000000
namespace K13
open PySem PySem.Spec PyProof.Rows L2 Kk
abbrev s_do : Stmt := topS 30
abbrev n_do : List Str := ["now", "frame", "word", "answer", "box"]
theorem sc_do : FnScope n_do ["now", "frame", "word", "answer"] (defScope s_do) := ⟨rfl, rfl, rfl, by decide +kernel, rfl, by decide +kernel, by decide +kernel⟩
noncomputable def stF (f : Bq → Wv) (ans : Int) (W : Wo) : Bq → Wv := if isPut W = true then setF f (boxW W) (valW f ans W) else emF f W
def isTell : Wo → Bool
  | .tell _ => true
  | _ => false
def isDrop : Wo → Bool
  | .drop _ => true
  | _ => false
def tellW (f : Bq → Wv) : Wo → List Int
  | .tell b => [(f b).1]
  | _ => []
noncomputable def leftW (n : PyData) (f : Bq → Wv) : Wo → List PyData
  | .drop bs => leftB n f bs
  | _ => []
/-- the boxes of a word, its worths -/
def okW (kd Ws : List Str) : Wo → Prop
  | .take b s => b ∈ kd ∧ s ∈ Ws
  | .ask b => b ∈ kd
  | .number b _ => b ∈ kd
  | .copy b _ => b ∈ kd
  | .mix b _ _ => b ∈ kd
  | .opn b _ => b ∈ kd
  | .clear x => x.length ≤ 1000
  | .drop bs => bs.length < 64
  | _ => True
theorem okW.small {kd Ws : List Str} {W : Wo} (h : okW kd Ws W) : smallW W := by cases W <;> first | exact h | exact True.intro
theorem okW.box {kd Ws : List Str} {W : Wo} (h : okW kd Ws W) (p : isPut W = true) : boxW W ∈ kd := by cases W <;> first | exact h | exact h.1 | cases p
theorem SU.ok {ws : List Str} {Ws : List Str} (h : ∀ s ∈ ws, s ∈ Ws) (ex : ∃ ys, SU ws ys) : (sortU ws).Nodup ∧ ∀ s ∈ sortU ws, s ∈ Ws := by
  obtain ⟨ys, hy⟩ := ex
  rw [SU.eq hy]
  exact ⟨hy.2.1, fun s m => h s ((hy.2.2 s).mp m)⟩
def putL : List Str := [Str.ofString "take", Str.ofString "ask", Str.ofString "number", Str.ofString "copy", Str.ofString "mix", Str.ofString "open"]
theorem kind_of (W : Wo) : decide (kW W ∈ putL) = isPut W ∧ decide (kW W = Str.ofString "tell") = isTell W ∧ decide (kW W = Str.ofString "drop") = isDrop W := by
  cases W with
  | take b s => exact (show decide (Str.ofString "take" ∈ putL) = true ∧ decide (Str.ofString "take" = Str.ofString "tell") = false ∧ decide (Str.ofString "take" = Str.ofString "drop") = false by decide +kernel)
  | ask b => exact (show decide (Str.ofString "ask" ∈ putL) = true ∧ decide (Str.ofString "ask" = Str.ofString "tell") = false ∧ decide (Str.ofString "ask" = Str.ofString "drop") = false by decide +kernel)
  | number b n => exact (show decide (Str.ofString "number" ∈ putL) = true ∧ decide (Str.ofString "number" = Str.ofString "tell") = false ∧ decide (Str.ofString "number" = Str.ofString "drop") = false by decide +kernel)
  | copy b c => exact (show decide (Str.ofString "copy" ∈ putL) = true ∧ decide (Str.ofString "copy" = Str.ofString "tell") = false ∧ decide (Str.ofString "copy" = Str.ofString "drop") = false by decide +kernel)
  | mix b c d => exact (show decide (Str.ofString "mix" ∈ putL) = true ∧ decide (Str.ofString "mix" = Str.ofString "tell") = false ∧ decide (Str.ofString "mix" = Str.ofString "drop") = false by decide +kernel)
  | opn b c => exact (show decide (Str.ofString "open" ∈ putL) = true ∧ decide (Str.ofString "open" = Str.ofString "tell") = false ∧ decide (Str.ofString "open" = Str.ofString "drop") = false by decide +kernel)
  | tell b => exact (show decide (Str.ofString "tell" ∈ putL) = false ∧ decide (Str.ofString "tell" = Str.ofString "tell") = true ∧ decide (Str.ofString "tell" = Str.ofString "drop") = false by decide +kernel)
  | wipe b => exact (show decide (Str.ofString "wipe" ∈ putL) = false ∧ decide (Str.ofString "wipe" = Str.ofString "tell") = false ∧ decide (Str.ofString "wipe" = Str.ofString "drop") = false by decide +kernel)
  | clear x => exact (show decide (Str.ofString "clear" ∈ putL) = false ∧ decide (Str.ofString "clear" = Str.ofString "tell") = false ∧ decide (Str.ofString "clear" = Str.ofString "drop") = false by decide +kernel)
  | drop bs => exact (show decide (Str.ofString "drop" ∈ putL) = false ∧ decide (Str.ofString "drop" = Str.ofString "tell") = false ∧ decide (Str.ofString "drop" = Str.ofString "drop") = true by decide +kernel)
  | risk x => exact (show decide (Str.ofString "risk" ∈ putL) = false ∧ decide (Str.ofString "risk" = Str.ofString "tell") = false ∧ decide (Str.ofString "risk" = Str.ofString "drop") = false by decide +kernel)
  | fault x => exact (show decide (Str.ofString "fault" ∈ putL) = false ∧ decide (Str.ofString "fault" = Str.ofString "tell") = false ∧ decide (Str.ofString "fault" = Str.ofString "drop") = false by decide +kernel)
  | back => exact (show decide (Str.ofString "back" ∈ putL) = false ∧ decide (Str.ofString "back" = Str.ofString "tell") = false ∧ decide (Str.ofString "back" = Str.ofString "drop") = false by decide +kernel)
  | call x ca cg => exact (show decide (Str.ofString "call" ∈ putL) = false ∧ decide (Str.ofString "call" = Str.ofString "tell") = false ∧ decide (Str.ofString "call" = Str.ofString "drop") = false by decide +kernel)
  | choose rs => exact (show decide (Str.ofString "choose" ∈ putL) = false ∧ decide (Str.ofString "choose" = Str.ofString "tell") = false ∧ decide (Str.ofString "choose" = Str.ofString "drop") = false by decide +kernel)
  | loop rr => exact (show decide (Str.ofString "loop" ∈ putL) = false ∧ decide (Str.ofString "loop" = Str.ofString "tell") = false ∧ decide (Str.ofString "loop" = Str.ofString "drop") = false by decide +kernel)
  | out n => exact (show decide (Str.ofString "out" ∈ putL) = false ∧ decide (Str.ofString "out" = Str.ofString "tell") = false ∧ decide (Str.ofString "out" = Str.ofString "drop") = false by decide +kernel)
theorem dec_str (a b : Str) : decide (V.str a = V.str b) = decide (a = b) := by
  rw [decide_eq_decide]
  exact ⟨fun z => V.str.inj z, fun z => by rw [z]⟩
def keysOf (kvs : List (Key × V)) : List Key := kvs.map (·.1)
open Classical in
noncomputable def wipeI (f : Bq → Wv) (W : Wo) (kl : List Key) : Bq → Wv := fun r => if emW W r = true ∧ qK r ∈ kl then (0, []) else f r
theorem putK_len {κ : Type} [DecidableEq κ] {kvs : List (κ × V)} {k : κ} {v : V} (h : k ∈ kvs.map (·.1)) : (putK kvs k v).length = kvs.length := by
  have := congrArg List.length (putK_keys kvs k v)
  rw [if_pos h, List.length_map, List.length_map] at this
  exact this
theorem keys_str {kvs : List (Key × V)} {kd : List Str} (h : ∀ kv ∈ kvs, ∃ q : Bq, kv.1 = qK q ∧ q ∈ kd) : ∃ bqs : List Bq, kvs.map (·.1) = bqs.map qK ∧ (kvs.map fun kv => kV kv.1) = bqs.map V.str ∧ ∀ q ∈ bqs, q ∈ kd := by
  induction kvs with
  | nil => exact ⟨[], rfl, rfl, fun q m => by cases m⟩
  | cons kv kvs ih =>
    obtain ⟨bqs, e1, e2, e3⟩ := ih fun x m => h x (List.mem_cons_of_mem _ m)
    obtain ⟨q, e4, e5⟩ := h kv List.mem_cons_self
    refine ⟨q :: bqs, by rw [List.map_cons, List.map_cons, e4, e1], by rw [List.map_cons, List.map_cons, e4, e2]; rfl, fun r m => ?_⟩
    rcases List.mem_cons.mp m with z | z
    · rw [z]; exact e5
    · exact e3 r z
section
variable {P : Program} {w : World} {K : PySem.W.Frag} {mg : Str → Option Value} {base : Heap}
/-- the last of it: what is emptied -/
def tLoop (K : PySem.W.Frag) (CF : Addr) : TS := fun D σ H => ∃ (nw : V) (fr b : Addr) (pl wv ans : V) (z4 : Option V) (W : Wo) (kd Ws : List Str) (n : Nat) (f : Bq → Wv), σ = [some nw, some (.ref fr), some wv, some ans, z4] ∧ Tp K H wv (wD W) ∧ smallW W ∧ FrH CF H fr b pl ∧ Hd K H b kd Ws n f ∧ n ≤ 1000 ∧ fr ≠ b ∧
  ∀ H' z4', Ex [b] H H' → Hd K H' b kd Ws n (emF f W) → D.nx [some nw, some (.ref fr), some wv, some ans, z4'] H'
def spDo (K : PySem.W.Frag) (CF CR : Addr) : Sp := fun vs H Q _ => ∃ (nw fr b tl lf : Addr) (pl wv : V) (ans : Int) (W : Wo) (kd Ws : List Str) (n : Nat) (i : PyData) (f : Bq → Wv) (told : List Int) (ls : List V) (ds : List PyData), vs = [.ref nw, .ref fr, wv, .int ans] ∧
  (∃ dx fs, H nw = some (.ins CR dx fs) ∧ fs.lookup ("told" : Str) = some (.ref tl) ∧ fs.lookup ("left" : Str) = some (.ref lf) ∧ fs.lookup ("leave" : Str) = none) ∧ H tl = some (.lst (told.map V.int)) ∧ told.length ≤ 1000 ∧ H lf = some (.lst ls) ∧ TpAll K H ls ds ∧ ds.length ≤ 100000 ∧ tl ≠ lf ∧
  Tp K H wv (wD W) ∧ okW kd Ws W ∧ FrH CF H fr b pl ∧ Tp K H pl i ∧ Hd K H b kd Ws n f ∧ n ≤ 900 ∧ Ws.length ≤ 20 ∧
  ∀ H' ls', Ex [b, tl, lf] H H' → Hd K H' b kd Ws (n + 1) (stF f ans W) → H' tl = some (.lst ((told ++ tellW f W).map V.int)) → H' lf = some (.lst ls') → TpAll K H' ls' (ds ++ leftW i f W) → Q .non H'
theorem ok_do {f CF CR fH fL f1 f2 nA eA pA : Addr} {fd fdH fdL d1 d2 : FuncData} {k : Nat} (F : Fun K "do_boxes" "do_boxes" s_do f fd) (T : TF K mg CF) (N : Nth K mg nA eA) (GH : FnOk P w K mg base CX0 k fH fdH ["self", "box"] (spHolds K CF)) (mH : Meth K CF "holds" fH) (bH : Binds K fdH ["self", "box"] [])
    (GL : FnOk P w K mg base CX0 k fL fdL ["self", "frame", "boxes"] (spLeave K CF CR)) (mL : Meth K CR "leave" fL) (bL : Binds K fdL ["self", "frame", "boxes"] [])
    (C_put : Cl P w K mg base k "put_by" ["word", "frame", "answer"] (spPut K CF) f1 d1) (C_em : Cl P w K mg base k "empties" ["word", "box"] (spEmpties K) f2 d2) (clR : Cls K CR) (nT : NoAttr K CR "told")
    (g_P : mg "PUTTING" = some (.ref pA)) (tP : ∀ H, SqT K H pA (putL.map V.str)) (m_list : mg "list" = none) :
    FnOk P w K mg base CX0 (k + 1) f fd ["now", "frame", "word", "answer"] (spDo K CF CR) := by
  refine F.ok sc_do (fun vs H Q E h => ?_) (fun cdv A outer s H vs Q E hr h => ?_)
  · obtain ⟨nw, fr, b, tl, lf, pl, wv, ans, W, kd, Ws, n, i, f, told, ls, ds, rfl, _⟩ := h; rfl
  · obtain ⟨nw, fr, b, tl, lf, pl, wv, ans, W, kd, Ws, n, i, f, told, ls, ds, rfl, ⟨dR, fR, hR, hRt, hRl, hRm⟩, htl, hto, hlf, tls, lds, tlf, hW, okw, hF, tpl, hD, hn, hWs, q⟩ := h
    refine ⟨_, (pss_cons (ps_if (pt_cmpR op_in_seq (pe_ix ix_tup (pv 2) pe_int (fun _ _ => rfl)) (pe_glob (v := .ref pA) rfl g_P rfl) rfl) (pss_one (ps_dput (hu_of hr) (pe_fld (pv 1) rfl) (pe_ix ix_tup (pv 2) pe_int (fun _ _ => rfl)) (pe_call C_put.g hr (by rfl) C_put.m C_put.k C_put.b .nil pass0 (pa_cons (pv 2) (pa_cons (pv 1) (pa_cons (pv 3) pa_nil)))) rfl)) pss_nil)
      (pss_cons (ps_if (pt_cmpR op_eq (pe_ix ix_tup (pv 2) pe_int (fun _ _ => rfl)) pe_str (nomark _)) (pss_one (ps_expr (pe_bm PySem.F.plainAttrs_list PySem.F.slot_list_append PySem.F.type_list_append mt_append (pe_fld (pv 0) rfl) (pa_cons (pe_ix ix_tup (pe_meth (pv 1) T.cl mH GH hr bH .nil pass0 (pa_cons (pe_ix ix_tup (pv 2) pe_int (fun _ _ => rfl)) pa_nil)) pe_int (fun _ _ => rfl)) pa_nil)))) pss_nil)
      (pss_cons (ps_if (pt_cmpR op_eq (pe_ix ix_tup (pv 2) pe_int (fun _ _ => rfl)) pe_str (nomark _)) (pss_one (ps_expr (pe_meth (pv 0) clR mL GL hr bL .nil pass0 (pa_cons (pv 1) (pa_cons (pe_ix ix_tup (pv 2) pe_int (fun _ _ => rfl)) pa_nil))))) pss_nil)
      (pss_one (PS.by (t' := tLoop K CF) (ps_for PassesOwn.never rfl (pi_list (pe_callTy (call_list_dK rfl) (by rfl) m_list (by decide +kernel) (pa_cons (pe_fld (pv 1) rfl) pa_nil))) (pg_name (i := 4) sc_do.nd rfl (.inl rfl)) (pss_one (ps_if (pt_val (pe_call C_em.g hr (by rfl) C_em.m C_em.k C_em.b .nil pass0 (pa_cons (pv 2) (pa_cons (pv 4) pa_nil)))) (pss_one (ps_dput (hu_of hr) (pe_fld (pv 1) rfl) (pv 4) (pe_glob (v := .ref nA) rfl N.m rfl) rfl)) pss_nil))) (by
        rintro D σ H ⟨nw, fr, b, pl, wv, ans, z4, W, kd, Ws, n, f, rfl, hW, sm, hF, hD, hn, frb, q⟩
        obtain ⟨dx, fs, hf1, hf2, hf3, hf4, hf5⟩ := id hF
        obtain ⟨kvs, k1, k2, k3, k4, k5, k6, k7⟩ := id hD
        obtain ⟨bqs, eb, ev, hbk⟩ := keys_str k4
        have lb : bqs.length = kvs.length := by
          have := congrArg List.length eb
          rw [List.length_map, List.length_map] at this
          exact this.symm
        refine ⟨.ref fr, rfl, fr, CF, dx, fs, .ref b, rfl, hf1, T.cl, T.nB, hf2, b, kvs, rfl, k1, fun L nL => ?_⟩
        rw [ev]
        have xL : Ex [] H (upd H L (.lst (bqs.map V.str))) := .new nL
        have Lb : L ≠ b := fun z => by rw [z, k1] at nL; cases nL
        refine ⟨L, rfl, ⟨_, .of upd_same⟩, for_list (a := L) (xs := bqs.map V.str) (fun i σ H2 => ∃ z4', σ = [some nw, some (.ref fr), some wv, some ans, z4'] ∧ Ex [b] (upd H L (.lst (bqs.map V.str))) H2 ∧ H2 L = some (.lst (bqs.map V.str)) ∧ ∃ kvs2, H2 b = some (.dK kvs2) ∧ keysOf kvs2 = keysOf kvs ∧
          Hd K H2 b kd Ws n (wipeI f W ((keysOf kvs).take i))) ?_ ?_ ?_ ?_⟩
        · refine ⟨_, rfl, .refl, upd_same, kvs, xL.a b _ (by simp) k1 (fun _ z => by cases z), rfl, ?_⟩
          have ef : (wipeI f W ((keysOf kvs).take 0)) = f := by
            funext r
            unfold wipeI
            rw [if_neg (by simp)]
          rw [ef]
          exact hD.ex xL (by simp)
        · rintro i σ H2 _ ⟨z, _, _, hL, _⟩
          exact .of hL
        · rintro i x σ H2 hx ⟨z4', rfl, x2, hL2, kvs2, hb2, ek2, hD2⟩
          rw [List.getElem?_map] at hx
          cases hbi : bqs[i]? with
          | none => rw [hbi] at hx; cases hx
          | some bq =>
          rw [hbi] at hx
          cases hx
          have hkey : (keysOf kvs)[i]? = some (qK bq) := by
            unfold keysOf
            rw [eb, List.getElem?_map, hbi]; rfl
          have hbk2 := hbk bq (List.mem_of_getElem? hbi)
          have x02 : Ex [b] H H2 := (xL.mono (by simp)).trans x2
          have tk : (keysOf kvs).take (i + 1) = (keysOf kvs).take i ++ [qK bq] := by rw [List.take_add_one, hkey]; rfl
          refine ⟨wv, rfl, .str bq, rfl, wv, W, bq, rfl, hW.ex x02, sm, _, rfl, ite2 (fun e => ?_) fun e => ?_⟩
          · have hF2 := hF.ex x02 (by simpa using frb)
            obtain ⟨dx2, fs2, g1, g2, _⟩ := hF2
            have len2 : kvs2.length < sizeLine := by
              have : kvs2.length = kvs.length := by
                have := congrArg List.length ek2
                simpa [keysOf] using this
              rw [this, sizeLine_eq]; omega
            refine ⟨.ref fr, rfl, fr, CF, dx2, fs2, .ref b, rfl, g1, T.cl, T.nB, g2, .str bq, rfl, b, _, rfl, .inl ⟨kvs2, qK bq, hb2, rfl, len2, rfl⟩, ?_⟩
            have mk : qK bq ∈ keysOf kvs2 := by rw [ek2]; exact List.mem_of_getElem? hkey
            obtain ⟨kvs3, k1', k2', k3', k4', k5', k6', k7'⟩ := hD2
            rw [hb2] at k1'
            cases k1'
            have x3 : Ex [b] H2 (upd H2 b (.dK (putK kvs2 (qK bq) (.ref nA)))) := .put hb2 (fun _ z => by cases z) (by simp)
            have hp := Hd.put (x := (0, [])) hb2 k2' k3' k4' k5' k6' k7' hbk2 (N.tp H2) ⟨by simp, fun s m => by cases m⟩
            obtain ⟨kvs4, p1, p2, p3, p4, p5, p6, p7⟩ := hp
            rw [upd_same] at p1
            cases p1
            refine ⟨_, rfl, x2.trans x3, x3.lst hL2 (by simpa using Lb), _, upd_same, by unfold keysOf at mk ek2 ⊢; rw [putK_keys, if_pos mk]; exact ek2, ?_⟩
            have ef : (wipeI f W ((keysOf kvs).take (i + 1))) = setF (wipeI f W ((keysOf kvs).take i)) bq (0, []) := by
              funext r
              unfold setF wipeI
              rw [tk]
              by_cases er : r = bq
              · rw [if_pos er, if_pos ⟨by rw [er]; exact e, by rw [er]; simp⟩]
              · rw [if_neg er]
                have : (qK r ∈ (keysOf kvs).take i ++ [qK bq]) ↔ (qK r ∈ (keysOf kvs).take i) := by
                  rw [List.mem_append, List.mem_singleton]
                  exact ⟨fun z => z.elim id fun y => absurd (qK_inj y) er, .inl⟩
                rw [this]
            rw [ef]
            exact ⟨_, upd_same, by rw [putK_len mk]; exact k2', p3, p4, p5, p6, p7⟩
          · refine ⟨_, rfl, x2, hL2, kvs2, hb2, ek2, ?_⟩
            have ef : (wipeI f W ((keysOf kvs).take (i + 1))) = (wipeI f W ((keysOf kvs).take i)) := by
              funext r
              unfold wipeI
              rw [tk]
              by_cases er : r = bq
              · rw [er, if_neg fun z => e z.1, if_neg fun z => e z.1]
              · have : (qK r ∈ (keysOf kvs).take i ++ [qK bq]) ↔ (qK r ∈ (keysOf kvs).take i) := by
                  rw [List.mem_append, List.mem_singleton]
                  exact ⟨fun z => z.elim id fun y => absurd (qK_inj y) er, .inl⟩
                rw [this]
            rw [ef]; exact hD2
        · rintro σ H2 ⟨z4', rfl, x2, hL2, kvs2, hb2, ek2, hD2⟩
          refine q H2 z4' ((xL.mono (by simp)).trans x2) ?_
          have ef : (wipeI f W ((keysOf kvs).take (bqs.map V.str).length)) = emF f W := by
            funext r
            unfold wipeI emF
            have et : (keysOf kvs).take (bqs.map V.str).length = keysOf kvs := by
              rw [List.length_map, lb]
              exact List.take_of_length_le (by unfold keysOf; rw [List.length_map]; exact Nat.le_refl _)
            rw [et]
            by_cases e1 : emW W r = true
            · rw [if_pos e1]
              by_cases e2 : qK r ∈ keysOf kvs
              · rw [if_pos ⟨e1, e2⟩]
              · rw [if_neg fun z => e2 z.2]
                refine k6 r ?_
                unfold valV
                have : kvs.find? (fun kv => decide (kv.1 = qK r)) = none := by
                  rw [List.find?_eq_none]
                  intro p hp z
                  exact e2 (List.mem_map.mpr ⟨p, hp, of_decide_eq_true z⟩)
                rw [this]; rfl
            · rw [if_neg e1, if_neg fun z => e1 z.1]
          rw [← ef]; exact hD2)))))), ?_⟩
    obtain ⟨a, r0, rfl, hs, hr1⟩ := word_in hW
    obtain ⟨e1, e2, e3⟩ := kind_of W
    obtain ⟨dx, fs, hf1, hf2, hf3, hf4, hf5⟩ := id hF
    obtain ⟨kvs, k1, k2, k3, k4, k5, k6, k7⟩ := id hD
    have frb : fr ≠ b := ne_of hf1 k1 (by intro z; cases z)
    have btl : tl ≠ b := ne_of htl k1 (by intro z; cases z)
    have blf : lf ≠ b := ne_of hlf k1 (by intro z; cases z)
    have nwb : nw ≠ b := ne_of hR k1 (by intro z; cases z)
    have frtl : fr ≠ tl := ne_of hf1 htl (by intro z; cases z)
    have frlf : fr ≠ lf := ne_of hf1 hlf (by intro z; cases z)
    have nodrop : isDrop W = false → ∀ {A B : Prop}, B → if decide (V.str (kW W) = V.str (Str.ofString "drop")) = true then A else B := fun e A B x => by
      rw [dec_str, e3, e, if_neg (by decide)]; exact x
    have dodrop : isDrop W = true → ∀ {A B : Prop}, A → if decide (V.str (kW W) = V.str (Str.ofString "drop")) = true then A else B := fun e A B x => by
      rw [dec_str, e3, e, if_pos rfl]; exact x
    have notell : isTell W = false → ∀ {A B : Prop}, B → if decide (V.str (kW W) = V.str (Str.ofString "tell")) = true then A else B := fun e A B x => by
      rw [dec_str, e2, e, if_neg (by decide)]; exact x
    have dotell : isTell W = true → ∀ {A B : Prop}, A → if decide (V.str (kW W) = V.str (Str.ofString "tell")) = true then A else B := fun e A B x => by
      rw [dec_str, e2, e, if_pos rfl]; exact x
    refine ⟨.ref a, rfl, a, _, 0, .str (kW W), rfl, rfl, hs, at0, pA, _, rfl, .inr (tP H), rfl, strs_flat _, _, rfl, ?_⟩
    show if inV _ _ = true then _ else _
    rw [inV_strs, e1]
    cases hp : isPut W with
    | true =>
      have nt : isTell W = false := by cases W <;> first | rfl | cases hp
      have nd : isDrop W = false := by cases W <;> first | rfl | cases hp
      have em : ∀ g : Bq → Wv, emF g W = g := fun g => by
        funext r
        unfold emF
        rw [if_neg]
        cases W <;> first | (intro z; cases z; done) | cases hp
      have tw : tellW f W = [] := by cases W <;> first | rfl | cases hp
      have lw : leftW i f W = [] := by cases W <;> first | rfl | cases hp
      have hb1 := okw.box hp
      have b1 : ∃ r', r0 = .str (boxW W) :: r' := by
        cases W with
        | take b s => obtain ⟨r2, e, _⟩ := one_s hr1; exact ⟨r2, e⟩
        | ask b => obtain ⟨r2, e, _⟩ := one_s hr1; exact ⟨r2, e⟩
        | number b n => obtain ⟨r2, e, _⟩ := one_s hr1; exact ⟨r2, e⟩
        | copy b c => obtain ⟨r2, e, _⟩ := one_s hr1; exact ⟨r2, e⟩
        | mix b c d => obtain ⟨r2, e, _⟩ := one_s hr1; exact ⟨r2, e⟩
        | opn b c => obtain ⟨r2, e, _⟩ := one_s hr1; exact ⟨r2, e⟩
        | tell b => cases hp
        | wipe b => cases hp
        | clear b => cases hp
        | drop b => cases hp
        | risk b => cases hp
        | fault b => cases hp
        | back => cases hp
        | call b ca cg => cases hp
        | choose rs => cases hp
        | loop rr => cases hp
        | out n => cases hp
      obtain ⟨r', rfl⟩ := b1
      rw [if_pos rfl]
      refine ⟨.ref a, rfl, .ref fr, rfl, .int ans, rfl, fr, b, pl, .ref a, W, ans, kd, Ws, n, f, rfl, hW, hp, hF, hD, hWs, fun H1 u x1 tu => ?_⟩
      have k1' := x1.a b _ (by simp) k1 (fun _ z => by cases z)
      have len1 : kvs.length < sizeLine := by rw [sizeLine_eq]; omega
      refine ⟨.ref fr, rfl, fr, CF, dx, fs, .ref b, rfl, x1.a fr _ (by simp) hf1 (fun _ z => by cases z), T.cl, T.nB, hf2, .ref a, rfl, a, _, 1, .str (boxW W), rfl, rfl, x1.seqT hs, at1, b, _, rfl, .inl ⟨kvs, qK (boxW W), k1', rfl, len1, rfl⟩, ?_⟩
      have x2 : Ex [b] H1 (upd H1 b (.dK (putK kvs (qK (boxW W)) u))) := .put k1' (fun _ z => by cases z) (by simp)
      have vok : (valW f ans W).2.Nodup ∧ ∀ s ∈ (valW f ans W).2, s ∈ Ws := by
        cases W with
        | take b s => exact ⟨by simp [valW], fun s' m => by rw [List.mem_singleton.mp m]; exact okw.2⟩
        | ask b => exact ⟨by simp [valW], fun s' m => by cases m⟩
        | number b n => exact ⟨by simp [valW], fun s' m => by cases m⟩
        | copy b c => exact k7 c
        | opn b c => exact ⟨by simp [valW], fun s' m => by cases m⟩
        | tell b => cases hp
        | wipe b => cases hp
        | clear b => cases hp
        | drop b => cases hp
        | risk b => cases hp
        | fault b => cases hp
        | back => cases hp
        | call b ca cg => cases hp
        | choose rs => cases hp
        | loop rr => cases hp
        | out n => cases hp
        | mix b c d =>
          refine SU.ok (fun s' m => ?_) ?_
          · rcases List.mem_append.mp m with m | m
            · exact (k7 c).2 s' m
            · exact (k7 d).2 s' m
          · exact su_ex _
      have hD2 := Hd.put k1' k2 k3 k4 (fun q v hv => (k5 q v hv).ex x1) k6 k7 hb1 tu vok
      have x12 : Ex [b] H (upd H1 b (.dK (putK kvs (qK (boxW W)) u))) := (x1.mono (by simp)).trans x2
      refine ⟨.ref a, rfl, a, _, 0, .str (kW W), rfl, rfl, x12.seqT hs, at0, rfl, _, rfl, notell nt ?_⟩
      refine ⟨.ref a, rfl, a, _, 0, .str (kW W), rfl, rfl, x12.seqT hs, at0, rfl, _, rfl, nodrop nd ?_⟩
      refine ⟨.ref nw, fr, b, pl, .ref a, .int ans, none, W, kd, Ws, n + 1, _, rfl, hW.ex x12, okw.small, hF.ex x12 (by simpa using frb), hD2, by omega, frb, fun H' z4' x' hD' => ?_⟩
      rw [em] at hD'
      have x3 := x12.trans x'
      refine q H' ls (x3.mono (by simp)) ?_ ?_ (x3.lst hlf (by simpa using blf)) ?_
      · unfold stF
        rw [if_pos hp]; exact hD'
      · rw [tw, List.append_nil]
        exact x3.lst htl (by simpa using btl)
      · rw [lw, List.append_nil]
        exact tls.ex x3
    | false =>
      rw [if_neg (by decide)]
      have sf : stF f ans W = emF f W := by
        unfold stF
        rw [if_neg (by rw [hp]; decide)]
      cases ht : isTell W with
      | true =>
        cases W <;> try cases ht
        rename_i tb
        obtain ⟨r', rfl, _⟩ := one_s hr1
        refine ⟨.ref a, rfl, a, _, 0, _, rfl, rfl, hs, at0, rfl, _, rfl, dotell rfl ?_⟩
        refine ⟨.ref nw, rfl, nw, CR, dR, fR, .ref tl, rfl, hR, clR, nT, hRt, .inl ⟨rfl, _, .of htl⟩, .ref fr, rfl, fr, dx, fs, rfl, hf1, hf4, .ref a, rfl, a, _, 1, .str tb, rfl, rfl, hs, at1, fr, b, pl, .str tb, tb, kd, Ws, n, f, rfl, hF, hD, rfl, fun z hz => ?_⟩
        obtain ⟨z1, z2, rfl, hz1, hz2⟩ := wv_inv hz
        refine ⟨z1, _, 0, .int (f tb).1, rfl, rfl, hz1, at0, tl, _, _, rfl, rfl, htl, by rw [List.length_map, sizeLine_eq]; omega, ?_⟩
        have x2 : Ex [tl] H (upd H tl (.lst (told.map V.int ++ [.int (f tb).1]))) := .put htl nt_lst (by simp)
        refine ⟨.ref a, rfl, a, _, 0, _, rfl, rfl, x2.seqT hs, at0, rfl, _, rfl, nodrop rfl ?_⟩
        refine ⟨.ref nw, fr, b, pl, .ref a, .int ans, none, .tell tb, kd, Ws, n, f, rfl, hW.ex x2, True.intro, hF.ex x2 (by simpa using frtl), hD.ex x2 (by simpa using btl.symm), by omega, frb, fun H' z4' x' hD' => ?_⟩
        rw [← sf] at hD'
        have x3 : Ex [b, tl, lf] H H' := (x2.mono (by simp)).trans (x'.mono (by simp))
        refine q H' ls x3 (hD'.mono (by omega)) ?_ ?_ ?_
        · rw [x'.lst upd_same (by simpa using btl)]
          show some (HO.lst (told.map V.int ++ [.int (f tb).1])) = some (.lst ((told ++ [(f tb).1]).map V.int))
          rw [List.map_append]; rfl
        · exact x'.lst (x2.lst hlf (by simpa using tlf.symm)) (by simpa using blf)
        · show TpAll K _ _ (ds ++ [])
          rw [List.append_nil]
          exact tls.ex x3
      | false =>
        have tw : tellW f W = [] := by cases W <;> first | rfl | cases ht
        refine ⟨.ref a, rfl, a, _, 0, _, rfl, rfl, hs, at0, rfl, _, rfl, notell ht ?_⟩
        cases hd : isDrop W with
        | true =>
          cases W <;> try cases hd
          rename_i bs
          cases hr1 with
          | cons h1 h2 =>
            cases h1 with
            | tup hs2 ha2 =>
              rename_i r3 c ys
              rw [strs_inv ha2] at hs2
              refine ⟨.ref a, rfl, a, _, 0, _, rfl, rfl, hs, at0, rfl, _, rfl, dodrop rfl ?_⟩
              refine ⟨.ref nw, rfl, nw, dR, fR, rfl, hR, hRm, .ref fr, rfl, .ref a, rfl, a, _, 1, .ref c, rfl, rfl, hs, at1, nw, fr, b, lf, c, pl, bs, kd, Ws, n, i, f, ls, ds, rfl, ⟨dR, fR, hR, hRl⟩, hlf, tls, lds, .inl hs2, okw, hF, tpl, hD, fun H1 ls1 x1 hl1 tl1 => ?_⟩
              refine ⟨.ref nw, fr, b, pl, .ref a, .int ans, none, .drop bs, kd, Ws, n, f, rfl, hW.ex x1, True.intro, hF.ex x1 (by simpa using frlf), hD.ex x1 (by simpa using blf.symm), by omega, frb, fun H' z4' x' hD' => ?_⟩
              rw [← sf] at hD'
              refine q H' ls1 ((x1.mono (by simp)).trans (x'.mono (by simp))) (hD'.mono (by omega)) ?_ (x'.lst hl1 (by simpa using blf)) (tl1.ex x')
              rw [tw, List.append_nil]
              exact x'.lst (x1.lst htl (by simpa using tlf)) (by simpa using btl)
        | false =>
          have lw : leftW i f W = [] := by cases W <;> first | rfl | cases hd
          refine ⟨.ref a, rfl, a, _, 0, _, rfl, rfl, hs, at0, rfl, _, rfl, nodrop hd ?_⟩
          refine ⟨.ref nw, fr, b, pl, .ref a, .int ans, none, W, kd, Ws, n, f, rfl, hW, okw.small, hF, hD, by omega, frb, fun H' z4' x' hD' => ?_⟩
          rw [← sf] at hD'
          refine q H' ls (x'.mono (by simp)) (hD'.mono (by omega)) ?_ (x'.lst hlf (by simpa using blf)) ?_
          · rw [tw, List.append_nil]
            exact x'.lst htl (by simpa using btl)
          · rw [lw, List.append_nil]
            exact tls.ex x'
end
end K13

namespace Kk
open PySem PySem.Spec PyProof.Rows L2
/-! within a comprehension: the written part is the def's own -/
theorem pe_fldK {X : Cx} {K : PySem.W.Frag} {e : Expr} {f : Str} {pos : Pos} {ta : TE} (hK : X.K = K) (he : PE X e ta) (hb : attributeBase e f X.env (eval e X.env) = eval e X.env) : PE X (.Attribute e f pos) (tFld K ta f) := by subst hK; exact pe_fld he hb
theorem op_catB {X : Cx} {K : PySem.W.Frag} (h : X.K = K) : OpR X (binaryOp .Add) (rCatA K) := by subst h; exact op_catA
theorem op_neDK {X : Cx} {K : PySem.W.Frag} (h : X.K = K) (hu : X.A.units + 64 < cLine) : OpR X (compareOp .NotEq) (rNeD K) := by subst h; exact op_neD hu
theorem sl_tupK {X : Cx} {K : PySem.W.Frag} (h : X.K = K) : SlR X (rSlA K) := by subst h; exact sl_tupA
theorem cut1 {x : V} {xs : List V} : cutV (x :: xs) (some 1) none = xs := by
  unfold cutV
  have e1 : HT.sIx (x :: xs).length 0 (some 1) = 1 := by
    show (if (1 : Int) < 0 then ((1 : Int) + ((x :: xs).length : Int)).toNat else min (1 : Int).toNat (x :: xs).length) = 1
    rw [if_neg (by decide), List.length_cons]; show min 1 (xs.length + 1) = 1; omega
  rw [e1, HT.sIx_none]
  show xs.take ((x :: xs).length - 1) = xs
  rw [List.length_cons, Nat.add_sub_cancel, List.take_length]
theorem cut1n {x : V} {xs : List V} : ¬ (HT.sIx (x :: xs).length 0 (some 1) = 0 ∧ HT.sIx (x :: xs).length (x :: xs).length none = (x :: xs).length) := fun ⟨h, _⟩ => by
  have e1 : HT.sIx (x :: xs).length 0 (some 1) = 1 := by
    show (if (1 : Int) < 0 then ((1 : Int) + ((x :: xs).length : Int)).toNat else min (1 : Int).toNat (x :: xs).length) = 1
    rw [if_neg (by decide), List.length_cons]; show min 1 (xs.length + 1) = 1; omega
  rw [e1] at h; cases h
end Kk
namespace K13
open PySem PySem.Spec PyProof.Rows L2 Kk
abbrev s_held : Stmt := inClass (topS 27) 2
abbrev n_held : List Str := ["self", "found", "box", "one"]
theorem sc_held : FnScope n_held ["self"] (defScope s_held) := ⟨rfl, rfl, rfl, by decide +kernel, rfl, by decide +kernel, by decide +kernel⟩
def oneD (f : Bq → Wv) (q : Bq) : PyData := .tuple [.str q, .int (f q).1, .tuple ((f q).2.map .str)]
theorem shaped_wv {x : Wv} (h : ∀ s ∈ x.2, PyData.strOk s = true) : SeqAt.shaped (wvD x) = true := by
  have e : ∀ l : List Str, (∀ s ∈ l, PyData.strOk s = true) → PyData.canLayAll0 (l.map PyData.str) = true := by
    intro l
    induction l with
    | nil => intro _; rfl
    | cons a l ih =>
      intro h
      show (PyData.canLay0 (.str a) && PyData.canLayAll0 (l.map .str)) = true
      rw [show PyData.canLay0 (.str a) = PyData.strOk a from rfl, h a List.mem_cons_self, ih fun s m => h s (List.mem_cons_of_mem _ m)]; rfl
  have d : ∀ l : List Str, PyData.depthAll (l.map PyData.str) ≤ 1 := by
    intro l
    induction l with
    | nil => exact Nat.zero_le _
    | cons a l ih =>
      show max (PyData.depth (.str a)) (PyData.depthAll (l.map .str)) ≤ 1
      have : PyData.depth (.str a) ≤ 1 := by unfold PyData.depth; omega
      omega
  unfold SeqAt.shaped wvD
  have e1 : PyData.canLay0 (.tuple [.int x.1, .tuple (x.2.map .str)]) = true := by
    show (PyData.canLay0 (.int x.1) && (PyData.canLayAll0 (x.2.map .str) && true)) = true
    rw [e x.2 h]; rfl
  have e2 : PyData.depth (.tuple [.int x.1, .tuple (x.2.map .str)]) ≤ 64 := by
    have := d x.2
    simp only [PyData.depth, PyData.depthAll]
    omega
  rw [e1, decide_eq_true e2]; rfl
theorem eqv_nth (x : Wv) : PyData.eqv (wvD x) (wvD (0, [])) = decide (x = (0, [])) := by
  obtain ⟨n, ws⟩ := x
  have e1 : ((n : Int) == 0) = decide (n = 0) := by by_cases h : n = 0 <;> simp [h]
  cases ws with
  | nil =>
    simp only [wvD, PyData.eqv, PyData.eqvAll, List.map_nil, e1, Bool.and_true]
    rw [decide_eq_decide]
    exact ⟨fun h => by rw [h], fun h => (Prod.mk.inj h).1⟩
  | cons a l =>
    have e2 : decide ((n, a :: l) = ((0, []) : Wv)) = false := decide_eq_false fun h => by cases (Prod.mk.inj h).2
    rw [e2]
    simp [wvD, PyData.eqv, PyData.eqvAll]
section
variable {P : Program} {w : World} {K : PySem.W.Frag} {mg : Str → Option Value} {base : Heap}
def spHeld (K : PySem.W.Frag) (CF : Addr) : Sp := fun vs H Q _ => ∃ (fr b : Addr) (pl : V) (kd Ws : List Str) (n : Nat) (f : Bq → Wv), vs = [.ref fr] ∧ FrH CF H fr b pl ∧ Hd K H b kd Ws n f ∧ n < 64 ∧ (∀ s ∈ Ws, PyData.strOk s = true) ∧
  ∀ (H' : Hp) (t : Addr) (xs : List V) (qs : List Bq), Ex [] H H' → SqT K H' t xs → TpAll K H' xs (qs.map (oneD f)) → qs.Pairwise leS → qs.Nodup → (∀ q, q ∈ qs ↔ ¬ f q = (0, [])) → qs.length ≤ 1000 → Q (.ref t) H'
theorem ok_held {f CF nA eA : Addr} {fd : FuncData} {k : Nat} (F : Fun K "held" "Frame.held" s_held f fd) (T : TF K mg CF) (N : Nth K mg nA eA) (m_sorted : mg "sorted" = none) (m_list : mg "list" = none) (m_tuple : mg "tuple" = none) : FnOk P w K mg base CX0 (k + 1) f fd ["self"] (spHeld K CF) := by
  refine F.ok sc_held (fun vs H Q E h => ?_) (fun cdv A outer s H vs Q E hr h => ?_)
  · obtain ⟨fr, b, pl, kd, Ws, n, f, rfl, _⟩ := h; rfl
  · obtain ⟨fr, b, pl, kd, Ws, n, g, rfl, hF, hD, hn, hWs, q⟩ := h
    have hu64 : (A.deeper (envOfC "Frame.held" (defScope s_held) s.heap.objs.size f cdv)).units + 64 < cLine := hr.units
    refine ⟨_, (pss_cons (ps_setLc (i := 1) (own := [("box", 2)]) (g := gName 2) (tt := tYes) rfl sc_held.nd rfl rfl (sw_true rfl rfl rfl (by decide +kernel)) (pi_list (pe_callB (cr_sortTS (K := K) rfl) (by rfl) m_sorted (by decide +kernel) (pa_cons (pe_callTy (call_list_dK rfl) (by rfl) m_list (by decide +kernel) (pa_cons (pe_fld (pv 0) rfl) pa_nil)) pa_nil)))
          (blkOk_by (N := n_held) (sc := defScope s_held) (by decide +kernel)) (fun _ _ _ _ _ => pg_name (i := 2) sc_held.nd rfl (Or.inl rfl)) (fun _ _ _ _ _ => pts_nil)
          (fun _ _ _ _ _ => pe_op (op_catB (K := K) rfl) (pe_tup (pa_cons (pv 2) pa_nil)) (pe_dget (hu_of hr) (pe_fldK (K := K) rfl (pv 0) rfl) (pv 2) (fun _ _ => rfl))))
      (pss_one (ps_ret (pe_callTy call_tuple_of (by rfl) m_tuple (by decide +kernel) (pa_cons (pe_lc (own := [("one", 3)]) (g := gName 3) rfl sc_held.nd (pi_list (pv 1)) (blkOk_by (N := n_held) (sc := defScope s_held) (by decide +kernel)) (fun _ _ _ _ _ => pg_name (i := 3) sc_held.nd rfl (Or.inl rfl))
          (fun _ _ _ _ _ => pts_one (pt_cmpR (op_neDK (K := K) rfl hu64) (pe_slice (sl_tupK (K := K) rfl) (pv 3) (po_some pe_int) po_none) (pe_glob (v := .ref nA) rfl N.m rfl) (nomark _))) (fun _ _ _ _ _ => pv 3)) pa_nil))))), ?_⟩
    obtain ⟨dx, fs, hf1, hf2, hf3, hf4, hf5⟩ := id hF
    obtain ⟨kvs, k1, k2, k3, k4, k5, k6, k7⟩ := id hD
    obtain ⟨bqs, eb, ev, hbk⟩ := keys_str k4
    have ndb : bqs.Nodup := by
      rw [eb] at k3
      exact List.Pairwise.of_map qK (fun a b h e => h (by rw [e])) k3
    have lb : bqs.length ≤ n := by
      have := congrArg List.length eb
      rw [List.length_map, List.length_map] at this
      omega
    refine ⟨.ref fr, rfl, fr, CF, dx, fs, .ref b, rfl, hf1, T.cl, T.nB, hf2, b, kvs, rfl, k1, fun L nL => ?_⟩
    rw [ev]
    have xL : Ex [] H (upd H L (.lst (bqs.map V.str))) := .new nL
    refine ⟨L, bqs, rfl, .inr (.of upd_same), by omega, fun qs M pq srt nM => ?_⟩
    have xM : Ex [] (upd H L (.lst (bqs.map V.str))) (upd (upd H L (.lst (bqs.map V.str))) M (.lst (qs.map V.str))) := .new nM
    have xHM := xL.trans xM
    have hM : (upd (upd H L (.lst (bqs.map V.str))) M (.lst (qs.map V.str))) M = some (.lst (qs.map V.str)) := upd_same
    generalize upd (upd H L (.lst (bqs.map V.str))) M (.lst (qs.map V.str)) = H1 at xHM hM
    have lq : qs.length = bqs.length := pq.length_eq
    generalize hys : qs.map V.str = ys at hM
    have ly : ys.length = qs.length := by rw [← hys, List.length_map]
    have sq : qs.Pairwise leS := pw_sorted srt
    refine ⟨M, rfl, ⟨ys, .of hM⟩, fun D nD => ?_⟩
    have MD : M ≠ D := fun z => by rw [← z, hM] at nD; cases nD
    have bD : b ≠ D := ne_of_none (xHM.a b _ (by simp) k1 (fun _ z => by cases z)) nD
    have fD : fr ≠ D := ne_of_none (xHM.a fr _ (by simp) hf1 (fun _ z => by cases z)) nD
    have nD0 : H D = none := xHM.f _ nD
    refine lc_list (a := M) (xs := ys) (fun i H2 => ∃ acc, H2 D = some (.lst acc) ∧ TpAll K H2 acc ((qs.take i).map (oneD g)) ∧ H2 M = some (.lst ys) ∧ Ex [D] H1 H2) ?_ ?_ ?_ ?_
    · exact ⟨[], upd_same, by rw [List.take_zero]; exact .nil, by rw [upd_ne MD]; exact hM, .new nD⟩
    · rintro i H2 _ ⟨acc, _, _, h, _⟩
      exact .of h
    · rintro i x H2 hx ⟨acc, hDa, ha, hM2, x2⟩
      rw [← hys, List.getElem?_map] at hx
      cases hqi : qs[i]? with
      | none => rw [hqi] at hx; cases hx
      | some q1 =>
        rw [hqi] at hx
        cases hx
        have il : i < qs.length := (List.getElem?_eq_some_iff.mp hqi).1
        have mq : q1 ∈ bqs := pq.mem_iff.mp (List.mem_of_getElem? hqi)
        have xH2 : Ex [D] H H2 := (xHM.mono (by simp)).trans x2
        refine ⟨rfl, ?_⟩
        refine ⟨.str q1, rfl, (by show 1 ≤ sizeLine; decide), fun Z nZ => ?_⟩
        have xZ : Ex [] H2 (upd H2 Z (.tup [.str q1])) := .new nZ
        have xHZ : Ex [D] H (upd H2 Z (.tup [.str q1])) := xH2.trans (xZ.mono (by simp))
        have hkv : ∃ v, valV kvs (qK q1) = some v := by
          cases hv : valV kvs (qK q1) with
          | some v => exact ⟨v, rfl⟩
          | none =>
            exfalso
            have mk : qK q1 ∈ kvs.map (·.1) := by rw [eb]; exact List.mem_map.mpr ⟨q1, mq, rfl⟩
            obtain ⟨kv, hkv, e⟩ := List.mem_map.mp mk
            unfold valV at hv
            have : kvs.find? (fun kv => decide (kv.1 = qK q1)) ≠ none := by
              rw [Ne, List.find?_eq_none]
              intro z
              exact z kv hkv (decide_eq_true e)
            cases hfd : kvs.find? (fun kv => decide (kv.1 = qK q1)) with
            | none => exact this hfd
            | some y => rw [hfd] at hv; cases hv
        obtain ⟨v, hv⟩ := hkv
        obtain ⟨v1, v2, rfl, hv1, hv2⟩ := wv_inv (k5 q1 v hv)
        refine ⟨.ref fr, rfl, fr, CF, dx, fs, .ref b, rfl, xHZ.a fr _ (by simpa using fD) hf1 (fun _ z => by cases z), T.cl, T.nB, hf2, .str q1, rfl, b, .ref v1, rfl, ?_, ?_⟩
        · rw [← hv]
          exact DGet.k (k := qK q1) (xHZ.a b _ (by simpa using bD) k1 (fun _ z => by cases z))
        · have e1 : SqT K (upd H2 Z (.tup [.str q1])) v1 [.int (g q1).1, .ref v2] := xHZ.seqT hv1
          have e2 : SqT K (upd H2 Z (.tup [.str q1])) v2 ((g q1).2.map V.str) := xHZ.seqT hv2
          refine tp_cat (K := K) (ds := [.str q1]) (es := [.int (g q1).1, .tuple ((g q1).2.map .str)]) (.of upd_same) e1 (.cons (.str _) .nil) (.cons (.int _) (.cons (.tup e2 (TpAll.strs _)) .nil)) (by simp) fun p3 H3 zs x3 hs3 ht3 => ?_
          have hD3 := x3.lst (xZ.lst hDa)
          have lacc := ha.len
          rw [List.length_map, List.length_take] at lacc
          have x4 : Ex [D] H3 (upd H3 D (.lst (acc ++ [.ref p3]))) := .put hD3 nt_lst (by simp)
          refine ⟨acc, hD3, by rw [sizeLine_eq]; omega, acc ++ [.ref p3], upd_same, ?_, ?_, ((x2.trans (xZ.mono (by simp))).trans (x3.mono (by simp))).trans x4⟩
          · rw [List.take_add_one, hqi]
            show TpAll K _ _ ((qs.take i ++ [q1]).map (oneD g))
            rw [List.map_append]
            exact (((ha.ex xZ).ex x3).ex x4).app (.cons ((Tp.tup hs3 ht3).ex x4) .nil)
          · exact x4.lst (x3.lst (xZ.lst hM2)) (by simpa using MD)
    · rintro H2 ⟨acc, hDa, ha, hM2, x2⟩
      rw [ly, List.take_length] at ha
      have xH2 : Ex [] H H2 := Ex.own nD0 xHM x2
      have la := ha.len
      rw [List.length_map] at la
      refine ⟨.ref D, rfl, D, rfl, ⟨acc, .of hDa⟩, fun D2 nD2 => ?_⟩
      have DD : D ≠ D2 := fun z => by rw [← z, hDa] at nD2; cases nD2
      have nD20 : H D2 = none := xH2.f _ nD2
      refine lc_list (a := D) (xs := acc) (fun i H3 => ∃ acc2, H3 D2 = some (.lst acc2) ∧ TpAll K H3 acc2 (((qs.take i).filter fun q => decide (¬ g q = (0, []))).map (oneD g)) ∧ H3 D = some (.lst acc) ∧ Ex [D2] H2 H3 ∧ acc2.length ≤ i) ?_ ?_ ?_ ?_
      · exact ⟨[], upd_same, by rw [List.take_zero]; exact .nil, by rw [upd_ne DD]; exact hDa, .new nD2, Nat.le_refl _⟩
      · rintro i H3 _ ⟨_, _, _, h, _⟩
        exact .of h
      · rintro i x H3 hx ⟨acc2, hD2, ha2, hD3, x3, l2⟩
        obtain ⟨d1, hd1, tx⟩ := ha.get hx
        rw [List.getElem?_map] at hd1
        cases hqi : qs[i]? with
        | none => rw [hqi] at hd1; cases hd1
        | some q1 =>
          rw [hqi] at hd1
          cases hd1
          have il : i < qs.length := (List.getElem?_eq_some_iff.mp hqi).1
          have tx3 := tx.ex x3
          unfold oneD at tx3
          cases tx3 with
          | tup hs ha1 =>
            rename_i o zs
            cases ha1 with
            | cons h1 h2 =>
              rename_i z0 zr
              refine ⟨rfl, ?_⟩
              refine ⟨.ref o, rfl, 1, rfl, o, _, rfl, hs, fun z => absurd z cut1n, fun _ B nB => ?_⟩
              rw [cut1]
              have xB : Ex [] H3 (upd H3 B (.tup zr)) := .new nB
              have dB : Dp K (upd H3 B (.tup zr)) (.ref B) (wvD (g q1)) := .tup (.of upd_same) (h2.ex xB).dp
              refine ⟨wvD (g q1), wvD (0, []), dB, (N.tp _).dp, shaped_wv (fun s m => hWs s ((k7 q1).2 s m)), rfl, _, rfl, ?_⟩
              rw [eqv_nth]
              have tk : (qs.take (i + 1)).filter (fun q => decide (¬ g q = (0, []))) = (qs.take i).filter (fun q => decide (¬ g q = (0, []))) ++ (if g q1 = (0, []) then [] else [q1]) := by
                rw [List.take_add_one, hqi, List.filter_append]
                congr 1
                show [q1].filter _ = _
                rw [List.filter_cons]
                by_cases e : g q1 = (0, []) <;> simp [e]
              refine ite2 (fun e => ?_) fun e => ?_
              · have ng : ¬ g q1 = (0, []) := fun z => by rw [decide_eq_true z] at e; cases e
                have hD4 := xB.lst hD2
                have x4 : Ex [D2] (upd H3 B (.tup zr)) (upd (upd H3 B (.tup zr)) D2 (.lst (acc2 ++ [.ref o]))) := .put hD4 nt_lst (by simp)
                refine ⟨.ref o, rfl, acc2, hD4, by rw [sizeLine_eq]; omega, acc2 ++ [.ref o], upd_same, ?_, x4.lst (xB.lst hD3) (by simpa using DD), (x3.trans (xB.mono (by simp))).trans x4, by rw [List.length_append, List.length_singleton]; omega⟩
                rw [tk, if_neg ng, List.map_append]
                refine ((ha2.ex xB).ex x4).app (.cons (Tp.ex (Ex.trans (xB.mono (by simp)) x4) ?_) .nil)
                exact .tup hs (.cons h1 h2)
              · have ng : g q1 = (0, []) := by
                  refine Decidable.byContradiction fun z => e ?_
                  rw [decide_eq_false z]; rfl
                refine ⟨acc2, xB.lst hD2, ?_, xB.lst hD3, x3.trans (xB.mono (by simp)), by omega⟩
                rw [tk, if_pos ng, List.append_nil]
                exact ha2.ex xB
      · rintro H3 ⟨acc2, hD2, ha2, hD3, x3, l2⟩
        rw [la, List.take_length] at ha2
        refine ⟨D2, acc2, rfl, .inl ⟨.of hD2, fun t nt => ?_⟩⟩
        have xt : Ex [] H3 (upd H3 t (.tup acc2)) := .new nt
        have xH3 : Ex [] H H3 := Ex.own nD20 xH2 x3
        refine q _ t acc2 (qs.filter fun q => decide (¬ g q = (0, []))) (xH3.trans xt) (.of upd_same) (ha2.ex xt) (sq.filter _) ((pq.nodup_iff.mpr ndb).filter _) (fun r => ?_) (Nat.le_trans (List.length_filter_le _ _) (by omega))
        rw [List.mem_filter]
        constructor
        · intro z; exact of_decide_eq_true z.2
        · intro z
          refine ⟨?_, decide_eq_true z⟩
          rw [pq.mem_iff]
          refine Decidable.byContradiction fun nm => z (k6 r ?_)
          unfold valV
          have : kvs.find? (fun kv => decide (kv.1 = qK r)) = none := by
            rw [List.find?_eq_none]
            intro p hp e
            have mk : qK r ∈ kvs.map (·.1) := List.mem_map.mpr ⟨p, hp, of_decide_eq_true e⟩
            rw [eb] at mk
            obtain ⟨r', h1, h2⟩ := List.mem_map.mp mk
            exact nm (by rw [← qK_inj h2]; exact h1)
          rw [this]; rfl
end
end K13

set_option maxHeartbeats 4000000
namespace K13
open PySem PySem.Spec PyProof.Rows L2 Kk RZ
/-- a program, as its run asks it -/
structure Pr where
  d : PyData
  okp : PyData → Prop
  wd : PyData → Option Wo
  bh : PyData → PyData
  go : PyData → Nat → PyData
  pn : PyData → Str
  hd : Str → List Str × List Str
def wdD : Option Wo → PyData
  | none => .none
  | some W => wD W
def nLead : Wo → Nat
  | .choose rs => rs.length
  | _ => 1
/-- a word that do_plain does -/
def plainW : Wo → Bool
  | .fault _ => false
  | .back => false
  | .call _ _ _ => false
  | _ => true
abbrev emp : Str := Str.ofString ""
theorem pe_nv {X : Cx} {e : Expr} : PE X e (fun _ _ _ => False) := ⟨fun _ _ _ _ _ _ q => q.elim⟩
theorem plc_mk {K : PySem.W.Frag} {H : Hp} {a : Addr} {x : Str} {n : Nat} (h : SqT K H a [.str x, .int n]) : Tp K H (.ref a) (plcD x n) := .tup h (.cons (.str _) (.cons (.int _) .nil))
theorem itD {p A B : Prop} [Decidable p] (h : p) (a : A) : if decide p = true then A else B := by rw [if_pos (decide_eq_true h)]; exact a
theorem itN {p A B : Prop} [Decidable p] (h : ¬ p) (b : B) : if decide p = true then A else B := by rw [if_neg (by rw [decide_eq_false h]; exact Bool.false_ne_true)]; exact b
theorem atN {α : Type} {xs : List α} {j : Nat} {v : α} (h : xs[j]? = some v) : atI xs (j : Int) = some v := atI_nat h
/-- what a run asks of its program -/
def spWordAt (K : PySem.W.Frag) (G : Pr → Prop) : Sp := fun vs H Q _ => ∃ (p pl : V) (R : Pr) (pd : PyData), vs = [p, pl] ∧ G R ∧ Tp K H p R.d ∧ R.okp pd ∧ Tp K H pl pd ∧ ∀ u, Tp K H u (wdD (R.wd pd)) → Q u H
def spBehind (K : PySem.W.Frag) (G : Pr → Prop) : Sp := fun vs H Q _ => ∃ (p pl : V) (R : Pr) (pd : PyData) (W : Wo), vs = [p, pl] ∧ G R ∧ Tp K H p R.d ∧ R.okp pd ∧ Tp K H pl pd ∧ R.wd pd = some W ∧ ∀ H' u, Ex [] H H' → Tp K H' u (R.bh pd) → Q u H'
def spHead (K : PySem.W.Frag) (G : Pr → Prop) : Sp := fun vs H Q _ => ∃ (p : V) (R : Pr) (pd : PyData), vs = [p, .str (R.pn pd)] ∧ G R ∧ Tp K H p R.d ∧ R.okp pd ∧ ∀ H' t a b, Ex [] H H' → SqT K H' t [.ref a, .ref b] → SqT K H' a ((R.hd (R.pn pd)).1.map V.str) → SqT K H' b ((R.hd (R.pn pd)).2.map V.str) → Q (.ref t) H'
def spLeads (K : PySem.W.Frag) (G : Pr → Prop) : Sp := fun vs H Q _ => ∃ (p pl : V) (R : Pr) (pd : PyData) (W : Wo), vs = [p, pl] ∧ G R ∧ Tp K H p R.d ∧ R.okp pd ∧ Tp K H pl pd ∧ R.wd pd = some W ∧ plainW W = true ∧
  ∀ H' t os, Ex [] H H' → SqT K H' t os → (∀ j, j < nLead W → ∃ o u z, os[j]? = some (.ref o) ∧ SqT K H' o [u, z] ∧ Tp K H' z (R.go pd j)) → Q (.ref t) H'
abbrev s_rinit : Stmt := inClass (topS 28) 0
abbrev s_word : Stmt := inClass (topS 28) 1
abbrev s_lacks : Stmt := inClass (topS 28) 2
abbrev s_next : Stmt := inClass (topS 28) 3
theorem sc_rinit : FnScope ["self", "program", "answers"] ["self", "program", "answers"] (defScope s_rinit) := ⟨rfl, rfl, rfl, by decide +kernel, rfl, by decide +kernel, by decide +kernel⟩
theorem sc_word : FnScope ["self"] ["self"] (defScope s_word) := ⟨rfl, rfl, rfl, by decide +kernel, rfl, by decide +kernel, by decide +kernel⟩
theorem sc_lacks : FnScope ["self"] ["self"] (defScope s_lacks) := ⟨rfl, rfl, rfl, by decide +kernel, rfl, by decide +kernel, by decide +kernel⟩
theorem sc_next : FnScope ["self", "choices", "answer"] ["self", "choices"] (defScope s_next) := ⟨rfl, rfl, rfl, by decide +kernel, rfl, by decide +kernel, by decide +kernel⟩
structure RnS where
  prg : V
  an : Addr
  wt : Nat
  st : Nat
  tl : Addr
  lf : Addr
  en : V
  fl : Addr
/-- a run -/
structure RnF (r : RnS) (fs : List (Str × V)) : Prop where
  prg : fs.lookup ("program" : Str) = some r.prg
  an : fs.lookup ("answers" : Str) = some (.ref r.an)
  wt : fs.lookup ("wanted" : Str) = some (.int r.wt)
  st : fs.lookup ("steps" : Str) = some (.int r.st)
  tl : fs.lookup ("told" : Str) = some (.ref r.tl)
  lf : fs.lookup ("left" : Str) = some (.ref r.lf)
  en : fs.lookup ("ending" : Str) = some r.en
  fl : fs.lookup ("frames" : Str) = some (.ref r.fl)
  m1 : fs.lookup ("word" : Str) = none
  m2 : fs.lookup ("lacks_answer" : Str) = none
  m3 : fs.lookup ("next_answer" : Str) = none
  m4 : fs.lookup ("leave" : Str) = none
  ln : fs.length ≤ 20
def RnH (CR : Addr) (H : Hp) (nw : Addr) (r : RnS) : Prop := ∃ dx fs, H nw = some (.ins CR dx fs) ∧ RnF r fs
theorem RnH.ex {CR : Addr} {H H' : Hp} {nw : Addr} {r : RnS} {xs : List Addr} (h : RnH CR H nw r) (e : Ex xs H H') (m : nw ∉ xs) : RnH CR H' nw r := by
  obtain ⟨dx, fs, h1, r⟩ := h
  exact ⟨dx, fs, e.a nw _ m h1 (fun _ z => by cases z), r⟩
structure TR (K : PySem.W.Frag) (mg : Str → Option Value) (CR : Addr) : Prop where
  cl : Cls K CR
  n0 : NoAttr K CR "program"
  n1 : NoAttr K CR "answers"
  n2 : NoAttr K CR "wanted"
  n3 : NoAttr K CR "steps"
  n4 : NoAttr K CR "told"
  n5 : NoAttr K CR "left"
  n6 : NoAttr K CR "ending"
  n7 : NoAttr K CR "frames"
  mgC : mg "Run" = some (.ref CR)
/-- a field put -/
theorem RnF.wt1 {r : RnS} {fs : List (Str × V)} (h : RnF r fs) (n : Nat) (hl : (putF "wanted" (.int n) fs).length ≤ 20) : RnF { r with wt := n } (putF "wanted" (.int n) fs) :=
  ⟨by rw [lookup_putF, if_neg (by decide +kernel)]; exact h.prg, by rw [lookup_putF, if_neg (by decide +kernel)]; exact h.an, by rw [lookup_putF, if_pos rfl], by rw [lookup_putF, if_neg (by decide +kernel)]; exact h.st, by rw [lookup_putF, if_neg (by decide +kernel)]; exact h.tl, by rw [lookup_putF, if_neg (by decide +kernel)]; exact h.lf,
    by rw [lookup_putF, if_neg (by decide +kernel)]; exact h.en, by rw [lookup_putF, if_neg (by decide +kernel)]; exact h.fl, by rw [lookup_putF, if_neg (by decide +kernel)]; exact h.m1, by rw [lookup_putF, if_neg (by decide +kernel)]; exact h.m2, by rw [lookup_putF, if_neg (by decide +kernel)]; exact h.m3, by rw [lookup_putF, if_neg (by decide +kernel)]; exact h.m4, hl⟩
theorem RnF.st1 {r : RnS} {fs : List (Str × V)} (h : RnF r fs) (n : Nat) (hl : (putF "steps" (.int n) fs).length ≤ 20) : RnF { r with st := n } (putF "steps" (.int n) fs) :=
  ⟨by rw [lookup_putF, if_neg (by decide +kernel)]; exact h.prg, by rw [lookup_putF, if_neg (by decide +kernel)]; exact h.an, by rw [lookup_putF, if_neg (by decide +kernel)]; exact h.wt, by rw [lookup_putF, if_pos rfl], by rw [lookup_putF, if_neg (by decide +kernel)]; exact h.tl, by rw [lookup_putF, if_neg (by decide +kernel)]; exact h.lf,
    by rw [lookup_putF, if_neg (by decide +kernel)]; exact h.en, by rw [lookup_putF, if_neg (by decide +kernel)]; exact h.fl, by rw [lookup_putF, if_neg (by decide +kernel)]; exact h.m1, by rw [lookup_putF, if_neg (by decide +kernel)]; exact h.m2, by rw [lookup_putF, if_neg (by decide +kernel)]; exact h.m3, by rw [lookup_putF, if_neg (by decide +kernel)]; exact h.m4, hl⟩
theorem RnF.en1 {r : RnS} {fs : List (Str × V)} (h : RnF r fs) (v : V) (hl : (putF "ending" v fs).length ≤ 20) : RnF { r with en := v } (putF "ending" v fs) :=
  ⟨by rw [lookup_putF, if_neg (by decide +kernel)]; exact h.prg, by rw [lookup_putF, if_neg (by decide +kernel)]; exact h.an, by rw [lookup_putF, if_neg (by decide +kernel)]; exact h.wt, by rw [lookup_putF, if_neg (by decide +kernel)]; exact h.st, by rw [lookup_putF, if_neg (by decide +kernel)]; exact h.tl, by rw [lookup_putF, if_neg (by decide +kernel)]; exact h.lf,
    by rw [lookup_putF, if_pos rfl], by rw [lookup_putF, if_neg (by decide +kernel)]; exact h.fl, by rw [lookup_putF, if_neg (by decide +kernel)]; exact h.m1, by rw [lookup_putF, if_neg (by decide +kernel)]; exact h.m2, by rw [lookup_putF, if_neg (by decide +kernel)]; exact h.m3, by rw [lookup_putF, if_neg (by decide +kernel)]; exact h.m4, hl⟩
section
variable {P : Program} {w : World} {K : PySem.W.Frag} {mg : Str → Option Value} {base : Heap}
def spRInit (K : PySem.W.Frag) (CF CR : Addr) : Sp := fun vs H Q _ => ∃ (p dx an : Addr) (prg : V), vs = [.ref p, prg, .ref an] ∧ H p = some (.ins CR dx []) ∧ ∀ (H' : Hp) (fr b tl lf fl : Addr) (pl : V), Ex [p] H H' → H fr = none → H b = none → H tl = none → H lf = none → H fl = none → RnH CR H' p ⟨prg, an, 0, 0, tl, lf, .non, fl⟩ → FrH CF H' fr b pl → Tp K H' pl (plcD emp 0) → H' b = some (.dK []) → H' tl = some (.lst []) → H' lf = some (.lst []) → H' fl = some (.lst [.ref fr]) → tl ≠ lf → tl ≠ fl → lf ≠ fl → Q .non H'
theorem putF_len {f : Str} {v : V} : ∀ {fs : List (Str × V)}, fs.lookup f ≠ none → (putF f v fs).length = fs.length
  | [], h => absurd rfl h
  | (g, x) :: r, h => by
    unfold putF
    by_cases e : g = f
    · rw [if_pos e]; rfl
    · rw [if_neg e, List.length_cons, List.length_cons, putF_len (fs := r) ?_]
      intro z
      refine h ?_
      rw [List.lookup_cons]
      have : (f == g) = false := by
        cases q : f == g with
        | false => rfl
        | true => exact absurd (eq_of_beq q).symm e
      rw [this]; exact z
theorem lenF (f : Str) (v : V) {fs : List (Str × V)} {n : Nat} (h : fs.length ≤ n) : (putF f v fs).length ≤ n + 1 := Nat.le_trans (length_putF f v fs) (by omega)
theorem ok_rinit {f CF CR fI f1 : Addr} {fd fdI d1 : FuncData} {k : Nat} (F : Fun K "__init__" "Run.__init__" s_rinit f fd) (T : TR K mg CR) (TFr : TF K mg CF) (MF : Mk K CF fI) (GI : FnOk P w K mg base CX0 k fI fdI ["self", "place"] (spFInit CF)) (bI : Binds K fdI ["self", "place"] [])
    (C_first : Cl P w K mg base (k + 1) "first_place" ["program", "name"] spFirst f1 d1) : FnOk P w K mg base CX0 (k + 2) f fd ["self", "program", "answers"] (spRInit K CF CR) := by
  refine F.ok sc_rinit (fun vs H Q E h => ?_) (fun cdv A outer s H vs Q E hr h => ?_)
  · obtain ⟨p, dx, an, prg, rfl, _⟩ := h; rfl
  · obtain ⟨p, dx, an, prg, rfl, hp, q⟩ := h
    refine ⟨_, (pss_cons (ps_fld (pv 0) (pv 1) rfl) (pss_cons (ps_fld (pv 0) (pv 2) rfl) (pss_cons (ps_fld (pv 0) pe_int rfl) (pss_cons (ps_fld (pv 0) pe_int rfl) (pss_cons (ps_fld (pv 0) (pe_lst pa_nil) rfl) (pss_cons (ps_fld (pv 0) (pe_lst pa_nil) rfl) (pss_cons (ps_fld (pv 0) pe_non rfl)
      (pss_one (ps_fld (pv 0) (pe_lst (pa_cons (pe_make MF GI hr (by rfl) TFr.mgC bI .nil pass0 (pa_cons (pe_call C_first.g hr (by rfl) C_first.m C_first.k C_first.b .nil pass0 (pa_cons (pv 1) (pa_cons pe_str pa_nil))) pa_nil)) pa_nil)) rfl))))))))), ?_⟩
    have put : ∀ {H1 : Hp} {fs fs' : List (Str × V)}, H1 p = some (.ins CR dx fs) → Ex [p] H1 (upd H1 p (.ins CR dx fs')) := fun h => .put h (fun _ z => by cases z) (by simp)
    have l0 : (([] : List (Str × V))).length ≤ 0 := Nat.le_refl _
    have l1 := lenF "program" prg l0
    have l2 := lenF "answers" (.ref an) l1
    have l3 := lenF "wanted" (.int 0) l2
    have l4 := lenF "steps" (.int 0) l3
    refine ⟨prg, rfl, .ref p, rfl, p, CR, dx, [], rfl, hp, T.cl, T.n0, (by show 0 < 1000; decide), ?_⟩
    have x1 := put (fs' := putF "program" prg []) hp
    refine ⟨.ref an, rfl, .ref p, rfl, p, CR, dx, _, rfl, upd_same, T.cl, T.n1, by omega, ?_⟩
    have x2 := x1.trans (put (fs' := putF "answers" (.ref an) (putF "program" prg [])) upd_same)
    refine ⟨.ref p, rfl, p, CR, dx, _, rfl, upd_same, T.cl, T.n2, by omega, ?_⟩
    have x3 := x2.trans (put (fs' := putF "wanted" (.int 0) (putF "answers" (.ref an) (putF "program" prg []))) upd_same)
    refine ⟨.ref p, rfl, p, CR, dx, _, rfl, upd_same, T.cl, T.n3, by omega, ?_⟩
    have x4 := x3.trans (put (fs' := putF "steps" (.int 0) (putF "wanted" (.int 0) (putF "answers" (.ref an) (putF "program" prg [])))) upd_same)
    generalize hfs4 : putF "steps" (.int 0) (putF "wanted" (.int 0) (putF "answers" (.ref an) (putF "program" prg []))) = fs4 at l4 x4
    have h4 : ∀ {H0 : Hp}, (upd H0 p (.ins CR dx fs4)) p = some (.ins CR dx fs4) := upd_same
    refine ⟨Nat.zero_le _, fun tl ntl => ?_⟩
    have h4' := h4 (H0 := upd (upd (upd H p (.ins CR dx (putF "program" prg []))) p (.ins CR dx (putF "answers" (.ref an) (putF "program" prg [])))) p (.ins CR dx (putF "wanted" (.int 0) (putF "answers" (.ref an) (putF "program" prg [])))))
    generalize upd (upd (upd (upd H p (.ins CR dx (putF "program" prg []))) p (.ins CR dx (putF "answers" (.ref an) (putF "program" prg [])))) p (.ins CR dx (putF "wanted" (.int 0) (putF "answers" (.ref an) (putF "program" prg []))))) p (.ins CR dx fs4) = H4 at x4 h4' ntl
    have ptl : p ≠ tl := ne_of_none h4' ntl
    have xt : Ex [p] H4 (upd H4 tl (.lst [])) := .new ntl
    have l5 := lenF "told" (.ref tl) l4
    refine ⟨.ref p, rfl, p, CR, dx, fs4, rfl, by rw [upd_ne ptl]; exact h4', T.cl, T.n4, by omega, ?_⟩
    have x5 := (x4.trans xt).trans (put (fs' := putF "told" (.ref tl) fs4) (by rw [upd_ne ptl]; exact h4'))
    have h5 : (upd (upd H4 tl (.lst [])) p (.ins CR dx (putF "told" (.ref tl) fs4))) p = some (.ins CR dx (putF "told" (.ref tl) fs4)) := upd_same
    have h5t : (upd (upd H4 tl (.lst [])) p (.ins CR dx (putF "told" (.ref tl) fs4))) tl = some (.lst []) := by rw [upd_ne ptl.symm, upd_same]
    have n5 : H tl = none := x4.f _ ntl
    generalize upd (upd H4 tl (.lst [])) p (.ins CR dx (putF "told" (.ref tl) fs4)) = H5 at x5 h5 h5t
    refine ⟨Nat.zero_le _, fun lf nlf => ?_⟩
    have plf : p ≠ lf := ne_of_none h5 nlf
    have tlf : tl ≠ lf := ne_of_none h5t nlf
    have xl : Ex [p] H5 (upd H5 lf (.lst [])) := .new nlf
    have l6 := lenF "left" (.ref lf) l5
    refine ⟨.ref p, rfl, p, CR, dx, _, rfl, by rw [upd_ne plf]; exact h5, T.cl, T.n5, by omega, ?_⟩
    have x6 := (x5.trans xl).trans (put (fs' := putF "left" (.ref lf) (putF "told" (.ref tl) fs4)) (by rw [upd_ne plf]; exact h5))
    refine ⟨.ref p, rfl, p, CR, dx, _, rfl, upd_same, T.cl, T.n6, by omega, ?_⟩
    have l7 := lenF "ending" V.non l6
    have x7 := x6.trans (put (fs' := putF "ending" .non (putF "left" (.ref lf) (putF "told" (.ref tl) fs4))) upd_same)
    have h7 : (upd (upd (upd H5 lf (.lst [])) p (.ins CR dx (putF "left" (.ref lf) (putF "told" (.ref tl) fs4)))) p (.ins CR dx (putF "ending" .non (putF "left" (.ref lf) (putF "told" (.ref tl) fs4))))) p = some (.ins CR dx (putF "ending" .non (putF "left" (.ref lf) (putF "told" (.ref tl) fs4)))) := upd_same
    have h7t : (upd (upd (upd H5 lf (.lst [])) p (.ins CR dx (putF "left" (.ref lf) (putF "told" (.ref tl) fs4)))) p (.ins CR dx (putF "ending" .non (putF "left" (.ref lf) (putF "told" (.ref tl) fs4))))) tl = some (.lst []) := by rw [upd_ne ptl.symm, upd_ne ptl.symm, upd_ne tlf]; exact h5t
    have h7l : (upd (upd (upd H5 lf (.lst [])) p (.ins CR dx (putF "left" (.ref lf) (putF "told" (.ref tl) fs4)))) p (.ins CR dx (putF "ending" .non (putF "left" (.ref lf) (putF "told" (.ref tl) fs4))))) lf = some (.lst []) := by rw [upd_ne plf.symm, upd_ne plf.symm, upd_same]
    have n7l : H lf = none := x5.f _ nlf
    generalize upd (upd (upd H5 lf (.lst [])) p (.ins CR dx (putF "left" (.ref lf) (putF "told" (.ref tl) fs4)))) p (.ins CR dx (putF "ending" .non (putF "left" (.ref lf) (putF "told" (.ref tl) fs4)))) = H7 at x7 h7 h7t h7l
    refine ⟨prg, rfl, prg, _, rfl, fun t nt x dx2 nx ndx nex => ?_⟩
    have ht7 : (upd H7 t (.tup [.str emp, .int 0])) t = some (.tup [.str emp, .int 0]) := upd_same
    have xt2 : Ex [p] H7 (upd H7 t (.tup [.str (Str.ofString ""), .int 0])) := .new nt
    have xd : Ex [p] (upd H7 t (.tup [.str (Str.ofString ""), .int 0])) (upd (upd H7 t (.tup [.str (Str.ofString ""), .int 0])) dx2 (.own x)) := .new ndx
    have nx2 : (upd (upd H7 t (.tup [.str (Str.ofString ""), .int 0])) dx2 (.own x)) x = none := by rw [upd_ne nex.symm]; exact nx
    have xx : Ex [p] (upd (upd H7 t (.tup [.str (Str.ofString ""), .int 0])) dx2 (.own x)) (upd (upd (upd H7 t (.tup [.str (Str.ofString ""), .int 0])) dx2 (.own x)) x (.ins CF dx2 [])) := .new nx2
    refine ⟨x, dx2, .ref t, rfl, upd_same, fun H8 b nb x8 hF8 hb8 => ⟨rfl, ?_⟩⟩
    have nx7 : H7 x = none := upd_free nx
    have px : p ≠ x := ne_of_none h7 nx7
    have tx : tl ≠ x := ne_of_none h7t nx7
    have x78 : Ex [p, x] H7 H8 := (((xt2.trans xd).trans xx).mono (by simp)).trans (x8.mono (by simp))
    have x78p : Ex [p] H7 H8 := Ex.own nx7 .refl (x78.mono (by simp))
    have h8 : H8 p = some (.ins CR dx (putF "ending" .non (putF "left" (.ref lf) (putF "told" (.ref tl) fs4)))) := x8.a p _ (by simpa using px) (by rw [upd_ne px]; exact (Ex.new ndx (xs := [])).a p _ (by simp) ((Ex.new nt (xs := [])).a p _ (by simp) h7 (fun _ z => by cases z)) (fun _ z => by cases z)) (fun _ z => by cases z)
    have h8t : H8 tl = some (.lst []) := x78p.lst h7t (by simpa using ptl.symm)
    have h8l : H8 lf = some (.lst []) := x78p.lst h7l (by simpa using plf.symm)
    have h8p : Tp K H8 (.ref t) (plcD emp 0) := plc_mk (.of (x8.tup (xx.tup (xd.tup ht7))))
    have nb7 : H7 b = none := upd_free (upd_free (upd_free nb))
    refine ⟨(by show 1 ≤ sizeLine; decide), fun fl nfl => ?_⟩
    have pfl : p ≠ fl := ne_of_none h8 nfl
    have xf : Ex [p] H8 (upd H8 fl (.lst [.ref x])) := .new nfl
    refine ⟨.ref p, rfl, p, CR, dx, _, rfl, by rw [upd_ne pfl]; exact h8, T.cl, T.n7, by omega, ?_⟩
    have x9 : Ex [p] (upd H8 fl (.lst [.ref x])) (upd (upd H8 fl (.lst [.ref x])) p (.ins CR dx (putF "frames" (.ref fl) (putF "ending" .non (putF "left" (.ref lf) (putF "told" (.ref tl) fs4)))))) := put (by rw [upd_ne pfl]; exact h8)
    have x89 := xf.trans x9
    have bp : b ≠ p := fun z => by rw [z, h7] at nb7; cases nb7
    have flp : fl ≠ p := pfl.symm
    have tlfl : tl ≠ fl := ne_of_none h8t nfl
    have lffl : lf ≠ fl := ne_of_none h8l nfl
    refine q _ x b tl lf fl (.ref t) ((x7.trans x78p).trans x89) (x7.f _ nx7) (x7.f _ nb7) n5 n7l (x7.f _ (x78p.f _ nfl)) ⟨dx, _, upd_same, ?_⟩ (hF8.ex x89 (by simpa using px.symm)) (h8p.ex x89) (x89.a b _ (by simpa using bp) hb8 (fun _ z => by cases z)) (x89.lst h8t (by simpa using ptl.symm)) (x89.lst h8l (by simpa using plf.symm)) (by rw [upd_ne flp, upd_same]) tlf tlfl lffl
    have l8 := lenF "frames" (.ref fl) l7
    have lkk : ∀ m : Str, (putF "frames" (.ref fl) (putF "ending" .non (putF "left" (.ref lf) (putF "told" (.ref tl) fs4)))).lookup m = if m = "frames" then some (.ref fl) else if m = "ending" then some .non else if m = "left" then some (.ref lf) else if m = "told" then some (.ref tl) else if m = "steps" then some (.int 0) else if m = "wanted" then some (.int 0) else if m = "answers" then some (.ref an) else if m = "program" then some prg else none := fun m => by
      rw [← hfs4]
      simp only [lookup_putF]
      rfl
    constructor
    · rw [lkk, if_neg (by decide +kernel), if_neg (by decide +kernel), if_neg (by decide +kernel), if_neg (by decide +kernel), if_neg (by decide +kernel), if_neg (by decide +kernel), if_neg (by decide +kernel), if_pos rfl]
    · rw [lkk, if_neg (by decide +kernel), if_neg (by decide +kernel), if_neg (by decide +kernel), if_neg (by decide +kernel), if_neg (by decide +kernel), if_neg (by decide +kernel), if_pos rfl]
    · rw [lkk, if_neg (by decide +kernel), if_neg (by decide +kernel), if_neg (by decide +kernel), if_neg (by decide +kernel), if_neg (by decide +kernel), if_pos rfl]; rfl
    · rw [lkk, if_neg (by decide +kernel), if_neg (by decide +kernel), if_neg (by decide +kernel), if_neg (by decide +kernel), if_pos rfl]; rfl
    · rw [lkk, if_neg (by decide +kernel), if_neg (by decide +kernel), if_neg (by decide +kernel), if_pos rfl]
    · rw [lkk, if_neg (by decide +kernel), if_neg (by decide +kernel), if_pos rfl]
    · rw [lkk, if_neg (by decide +kernel), if_pos rfl]
    · rw [lkk, if_pos rfl]
    · rw [lkk, if_neg (by decide +kernel), if_neg (by decide +kernel), if_neg (by decide +kernel), if_neg (by decide +kernel), if_neg (by decide +kernel), if_neg (by decide +kernel), if_neg (by decide +kernel), if_neg (by decide +kernel)]
    · rw [lkk, if_neg (by decide +kernel), if_neg (by decide +kernel), if_neg (by decide +kernel), if_neg (by decide +kernel), if_neg (by decide +kernel), if_neg (by decide +kernel), if_neg (by decide +kernel), if_neg (by decide +kernel)]
    · rw [lkk, if_neg (by decide +kernel), if_neg (by decide +kernel), if_neg (by decide +kernel), if_neg (by decide +kernel), if_neg (by decide +kernel), if_neg (by decide +kernel), if_neg (by decide +kernel), if_neg (by decide +kernel)]
    · rw [lkk, if_neg (by decide +kernel), if_neg (by decide +kernel), if_neg (by decide +kernel), if_neg (by decide +kernel), if_neg (by decide +kernel), if_neg (by decide +kernel), if_neg (by decide +kernel), if_neg (by decide +kernel)]
    · omega
/-- the word that is due -/
def spWord (K : PySem.W.Frag) (CF CR : Addr) (G : Pr → Prop) : Sp := fun vs H Q _ => ∃ (nw fr b : Addr) (r : RnS) (pl : V) (fs0 : List V) (R : Pr) (pd : PyData), vs = [.ref nw] ∧ RnH CR H nw r ∧ H r.fl = some (.lst (fs0 ++ [.ref fr])) ∧ FrH CF H fr b pl ∧ G R ∧ Tp K H r.prg R.d ∧ R.okp pd ∧ Tp K H pl pd ∧ ∀ u, Tp K H u (wdD (R.wd pd)) → Q u H
theorem ok_rword {f CF CR f1 : Addr} {fd d1 : FuncData} {k : Nat} {G : Pr → Prop} (F : Fun K "word" "Run.word" s_word f fd) (T : TR K mg CR) (TFr : TF K mg CF) (C_word_at : Cl P w K mg base k "word_at" ["program", "place"] (spWordAt K G) f1 d1) : FnOk P w K mg base CX0 (k + 1) f fd ["self"] (spWord K CF CR G) := by
  refine F.ok sc_word (fun vs H Q E h => ?_) (fun cdv A outer s H vs Q E hr h => ?_)
  · obtain ⟨nw, fr, b, r, pl, fs0, R, pd, rfl, _⟩ := h; rfl
  · obtain ⟨nw, fr, b, r, pl, fs0, R, pd, rfl, ⟨dx, fs, h1, h2⟩, hfl, hF, hG, hp, hok, hpl, q⟩ := h
    refine ⟨_, pss_one (ps_ret (pe_call C_word_at.g hr (by rfl) C_word_at.m C_word_at.k C_word_at.b .nil pass0 (pa_cons (pe_fld (pv 0) rfl) (pa_cons (pe_fld (pe_ix ix_list (pe_fld (pv 0) rfl) (pe_un un_neg pe_int) (fun _ _ => rfl)) rfl) pa_nil)))), ?_⟩
    obtain ⟨dF, fF, g1, g2, g3, _⟩ := id hF
    exact ⟨.ref nw, rfl, nw, CR, dx, fs, r.prg, rfl, h1, T.cl, T.n0, h2.prg, .ref nw, rfl, nw, CR, dx, fs, .ref r.fl, rfl, h1, T.cl, T.n7, h2.fl, 1, rfl, r.fl, _, -1, .ref fr, rfl, rfl, .of hfl, atI_last _ _, fr, CF, dF, fF, pl, rfl, g1, TFr.cl, TFr.nP, g3, r.prg, pl, R, pd, rfl, hG, hp, hok, hpl, q⟩
/-- whether an answer lacks -/
def spLacks (K : PySem.W.Frag) (CF CR : Addr) (G : Pr → Prop) : Sp := fun vs H Q _ => ∃ (nw fr b : Addr) (r : RnS) (pl : V) (fs0 : List V) (R : Pr) (pd : PyData) (W : Wo) (xs : List V), vs = [.ref nw] ∧ RnH CR H nw r ∧ H r.fl = some (.lst (fs0 ++ [.ref fr])) ∧ FrH CF H fr b pl ∧ G R ∧ Tp K H r.prg R.d ∧ R.okp pd ∧ Tp K H pl pd ∧ R.wd pd = some W ∧ SqT K H r.an xs ∧ Q (.bl (decide (0 < chW W) && decide (r.wt = xs.length))) H
theorem ok_lacks {f CF CR f1 f2 : Addr} {fd d1 d2 : FuncData} {k : Nat} {G : Pr → Prop} (F : Fun K "lacks_answer" "Run.lacks_answer" s_lacks f fd) (T : TR K mg CR) (TFr : TF K mg CF) (GW : FnOk P w K mg base CX0 k f1 d1 ["self"] (spWord K CF CR G)) (mW : Meth K CR "word" f1) (bW : Binds K d1 ["self"] [])
    (C_choices_of : Cl P w K mg base k "choices_of" ["word"] (spChoices K) f2 d2) (m_len : mg "len" = none) : FnOk P w K mg base CX0 (k + 1) f fd ["self"] (spLacks K CF CR G) := by
  refine F.ok sc_lacks (fun vs H Q E h => ?_) (fun cdv A outer s H vs Q E hr h => ?_)
  · obtain ⟨nw, fr, b, r, pl, fs0, R, pd, W, xs, rfl, _⟩ := h; rfl
  · obtain ⟨nw, fr, b, r, pl, fs0, R, pd, W, xs, rfl, hR, hfl, hF, hG, hp, hok, hpl, hW, hxs, q⟩ := h
    refine ⟨_, pss_one (ps_ret (pe_and (pe_cmpR op_gt (pe_call C_choices_of.g hr (by rfl) C_choices_of.m C_choices_of.k C_choices_of.b .nil pass0 (pa_cons (pe_meth0 (pv 0) T.cl mW GW hr bW .nil pass0) pa_nil)) pe_int (nomark _)) (pe_one (pe_cmpR op_eq (pe_fld (pv 0) rfl) (pe_callB call_len_seq (by rfl) m_len PySem.boot_len (pa_cons (pe_fld (pv 0) rfl) pa_nil)) (nomark _))))), ?_⟩
    obtain ⟨dx, fs, h1, h2⟩ := id hR
    refine ⟨.ref nw, rfl, nw, dx, fs, rfl, h1, h2.m1, nw, fr, b, r, pl, fs0, R, pd, rfl, hR, hfl, hF, hG, hp, hok, hpl, fun u hu => ?_⟩
    rw [hW] at hu
    refine ⟨u, W, rfl, hu, chW W, 0, rfl, rfl, _, rfl, ite2 (fun e => ?_) fun e => ?_⟩
    · refine ⟨.ref nw, rfl, nw, CR, dx, fs, .int r.wt, rfl, h1, T.cl, T.n2, h2.wt, .ref nw, rfl, nw, CR, dx, fs, .ref r.an, rfl, h1, T.cl, T.n1, h2.an, r.an, xs, rfl, .inr hxs, rfl, ?_⟩
      have : decide (V.int (r.wt : Nat) = V.int (xs.length : Nat)) = decide (r.wt = xs.length) := by
        rw [decide_eq_decide]
        exact ⟨fun z => by have := V.int.inj z; omega, fun z => by rw [z]⟩
      rw [this]
      rw [decide_eq_true (show 0 < chW W from of_decide_eq_true e), Bool.true_and] at q
      exact q
    · rw [decide_eq_false (show ¬ 0 < chW W from fun z => e (decide_eq_true z)), Bool.false_and] at q
      exact q
def spNext (K : PySem.W.Frag) (CR : Addr) : Sp := fun vs H Q _ => ∃ (nw : Addr) (r : RnS) (ch a : Int) (xs : List V), vs = [.ref nw, .int ch] ∧ RnH CR H nw r ∧ SqT K H r.an xs ∧ xs[r.wt]? = some (.int a) ∧ 0 ≤ a ∧ a < ch ∧ ∀ H', Ex [nw] H H' → RnH CR H' nw { r with wt := r.wt + 1 } → Q (.int a) H'
theorem ok_next {f CR f1 : Addr} {fd d1 : FuncData} {k : Nat} (F : Fun K "next_answer" "Run.next_answer" s_next f fd) (T : TR K mg CR) (C_whole : Cl P w K mg base k "is_whole" ["thing"] spWholeI f1 d1) (m_len : mg "len" = none) : FnOk P w K mg base CX0 (k + 1) f fd ["self", "choices"] (spNext K CR) := by
  refine F.ok sc_next (fun vs H Q E h => ?_) (fun cdv A outer s H vs Q E hr h => ?_)
  · obtain ⟨nw, r, ch, a, xs, rfl, _⟩ := h; rfl
  · obtain ⟨nw, r, ch, a, xs, rfl, ⟨dx, fs, h1, h2⟩, hs, hx, a0, a1, q⟩ := h
    refine ⟨_, (pss_cons (ps_if (pt_cmpR op_eq (pe_fld (pv 0) rfl) (pe_callB call_len_seq (by rfl) m_len PySem.boot_len (pa_cons (pe_fld (pv 0) rfl) pa_nil)) (nomark _)) (pss_one ps_nv) pss_nil)
      (pss_cons (ps_set (i := 2) sc_next.nd rfl (.inl rfl) (pe_ix ix_tup (pe_fld (pv 0) rfl) (pe_fld (pv 0) rfl) (fun _ _ => rfl)))
      (pss_cons (ps_if (PW.pt (pw_or (pt_not (pt_val (pe_call C_whole.g hr (by rfl) C_whole.m C_whole.k C_whole.b .nil pass0 (pa_cons (pv 2) pa_nil)))) (pw_or1 (pt_not (pt_chain op_le op_lt pe_int (pv 2) (pv 1)))))) (pss_one ps_nv) pss_nil)
      (pss_cons (ps_fldaug (pv 0) pe_int ip_add)
      (pss_one (ps_ret (pv 2))))))), ?_⟩
    have wl : r.wt < xs.length := (List.getElem?_eq_some_iff.mp hx).1
    refine ⟨.ref nw, rfl, nw, CR, dx, fs, .int r.wt, rfl, h1, T.cl, T.n2, h2.wt, .ref nw, rfl, nw, CR, dx, fs, .ref r.an, rfl, h1, T.cl, T.n1, h2.an, r.an, xs, rfl, .inr hs, rfl, _, rfl, ite2 (fun e => ?_) fun _ => ?_⟩
    · have := V.int.inj (of_decide_eq_true e)
      omega
    refine ⟨.ref nw, rfl, nw, CR, dx, fs, .ref r.an, rfl, h1, T.cl, T.n1, h2.an, .ref nw, rfl, nw, CR, dx, fs, .int r.wt, rfl, h1, T.cl, T.n2, h2.wt, r.an, xs, r.wt, .int a, rfl, rfl, hs, atI_nat hx, ?_⟩
    refine ⟨.int a, rfl, a, rfl, _, rfl, iteF ?_⟩
    refine ⟨.int a, rfl, 0, a, rfl, rfl, _, rfl, ?_⟩
    rw [decide_eq_true a0]
    refine iteT ⟨.int ch, rfl, a, ch, rfl, rfl, _, rfl, ?_⟩
    rw [decide_eq_true a1]
    refine iteF ?_
    have ln := h2.ln
    refine ⟨.ref nw, rfl, nw, CR, dx, fs, .int r.wt, rfl, h1, T.cl, T.n2, h2.wt, r.wt, 1, rfl, rfl, dx, fs, h1, by omega, .int a, rfl, ?_⟩
    exact q _ (.put h1 (fun _ z => by cases z) (by simp)) ⟨dx, _, upd_same, h2.wt1 (r.wt + 1) (by rw [putF_len (by rw [h2.wt]; simp)]; exact h2.ln)⟩
end
end K13

set_option maxHeartbeats 4000000
namespace Kk
open PySem PySem.Spec PyProof.Rows L2
theorem op_notInB {X : Cx} {K : PySem.W.Frag} (h : X.K = K) : OpR X (compareOp .NotIn) (rIn K true) := by subst h; exact op_notIn_seq
theorem Ex.owns {H H1 : Hp} : ∀ {xs : List Addr} {H' : Hp}, (∀ x ∈ xs, H x = none) → Ex [] H H1 → Ex xs H1 H' → Ex [] H H'
  | [], _, _, e, a => e.trans a
  | x :: xs, _, n, e, a => ⟨fun b o _ h t => (by
      by_cases m : b ∈ x :: xs
      · rw [n b m] at h; cases h
      · exact a.a b o m (e.a b o (by simp) h t) t), fun b o h g => a.c b o (e.c b o h g) g, fun b h => a.t b (e.t b h), fun b h => e.f b (a.f b h)⟩
end Kk
namespace K13
open PySem PySem.Spec PyProof.Rows L2 Kk RZ
abbrev s_plain : Stmt := topS 31
theorem sc_plain : FnScope ["now", "word", "answer", "frame", "leads"] ["now", "word", "answer"] (defScope s_plain) := ⟨rfl, rfl, rfl, by decide +kernel, rfl, by decide +kernel, by decide +kernel⟩
/-- a frame: where it stands, what its boxes hold -/
structure Fr where
  pd : PyData
  f : Bq → Wv
/-- a run, as data -/
structure Sm where
  fs : List Fr
  told : List Int
  left : List PyData
  wt : Nat
  st : Nat
  en : Option (List PyData)
/-- what does not change in a run -/
structure Sh where
  nw : Addr
  prg : V
  an : Addr
  tl : Addr
  lf : Addr
  fl : Addr
  xs : List V
  kd : List Str
  Ws : List Str
  R : Pr
  H0 : Hp
def FX (K : PySem.W.Frag) (CF : Addr) (z : Sh) (H : Hp) (a : Addr × Addr) (F : Fr) : Prop := ∃ pl, FrH CF H a.1 a.2 pl ∧ Tp K H pl F.pd ∧ Hd K H a.2 z.kd z.Ws z.kd.length F.f
theorem FX.ex {K : PySem.W.Frag} {CF : Addr} {z : Sh} {H H' : Hp} {a : Addr × Addr} {F : Fr} {xs : List Addr} (h : FX K CF z H a F) (e : Ex xs H H') (m1 : a.1 ∉ xs) (m2 : a.2 ∉ xs) : FX K CF z H' a F := by
  obtain ⟨pl, h1, h2, h3⟩ := h
  exact ⟨pl, h1.ex e m1, h2.ex e, h3.ex e m2⟩
inductive Stk (K : PySem.W.Frag) (CF : Addr) (z : Sh) (H : Hp) : List (Addr × Addr) → List Fr → Prop
  | nil : Stk K CF z H [] []
  | cons {a : Addr × Addr} {F : Fr} {as : List (Addr × Addr)} {fs : List Fr} (h : FX K CF z H a F) (t : Stk K CF z H as fs) : Stk K CF z H (a :: as) (F :: fs)
theorem Stk.ex {K : PySem.W.Frag} {CF : Addr} {z : Sh} {H H' : Hp} {as : List (Addr × Addr)} {fs : List Fr} {xs : List Addr} (h : Stk K CF z H as fs) (e : Ex xs H H') (m1 : ∀ a ∈ as, a.1 ∉ xs) (m2 : ∀ a ∈ as, a.2 ∉ xs) : Stk K CF z H' as fs := by
  induction h with
  | nil => exact .nil
  | cons h t ih => exact .cons (h.ex e (m1 _ List.mem_cons_self) (m2 _ List.mem_cons_self)) (ih (fun a m => m1 a (List.mem_cons_of_mem _ m)) fun a m => m2 a (List.mem_cons_of_mem _ m))
theorem Stk.len {K : PySem.W.Frag} {CF : Addr} {z : Sh} {H : Hp} {as : List (Addr × Addr)} {fs : List Fr} (h : Stk K CF z H as fs) : as.length = fs.length := by
  induction h with
  | nil => rfl
  | cons h t ih => rw [List.length_cons, List.length_cons, ih]
/-- where each frame's address is a frame, each box's a dict -/
theorem Stk.at {K : PySem.W.Frag} {CF : Addr} {z : Sh} {H : Hp} {as : List (Addr × Addr)} {fs : List Fr} (h : Stk K CF z H as fs) : ∀ a ∈ as, (∃ dx fs, H a.1 = some (.ins CF dx fs)) ∧ ∃ kvs, H a.2 = some (.dK kvs) := by
  induction h with
  | nil => intro a m; cases m
  | cons h t ih =>
    intro a m
    rcases List.mem_cons.mp m with e | e
    · subst e
      obtain ⟨pl, ⟨dx, fs, h1, _⟩, _, ⟨kvs, k1, _⟩⟩ := h
      exact ⟨⟨dx, fs, h1⟩, ⟨kvs, k1⟩⟩
    · exact ih a e
def enV (K : PySem.W.Frag) (H : Hp) (e : Option (List PyData)) (v : V) : Prop := match e with
  | none => v = .non
  | some ds => ∃ a xs, v = .ref a ∧ SqT K H a xs ∧ TpAll K H xs ds
theorem enV.ex {K : PySem.W.Frag} {H H' : Hp} {e : Option (List PyData)} {v : V} {xs : List Addr} (h : enV K H e v) (x : Ex xs H H') : enV K H' e v := by
  cases e with
  | none => exact h
  | some ds =>
    obtain ⟨a, ys, h1, h2, h3⟩ := h
    exact ⟨a, ys, h1, x.seqT h2, h3.ex x⟩
abbrev frV (as : List (Addr × Addr)) : List V := (as.map fun a => V.ref a.1).reverse
/-- how a run stands in the heap -/
structure StA (K : PySem.W.Frag) (CF CR : Addr) (z : Sh) (H : Hp) (m : Sm) (as : List (Addr × Addr)) (ev : V) : Prop where
  R : RnH CR H z.nw ⟨z.prg, z.an, m.wt, m.st, z.tl, z.lf, ev, z.fl⟩
  en : enV K H m.en ev
  fl : H z.fl = some (.lst (frV as))
  S : Stk K CF z H as m.fs
  tl : H z.tl = some (.lst (m.told.map V.int))
  lf : ∃ ls, H z.lf = some (.lst ls) ∧ TpAll K H ls m.left
  b : Ex [] z.H0 H
  n0 : z.H0 z.nw = none ∧ z.H0 z.tl = none ∧ z.H0 z.lf = none ∧ z.H0 z.fl = none
  n1 : ∀ a ∈ as, z.H0 a.1 = none ∧ z.H0 a.2 = none ∧ ¬ z.nw = a.1
  u1 : (as.map (·.1)).Nodup
  u2 : (as.map (·.2)).Nodup
  pg : Tp K z.H0 z.prg z.R.d
  an : SqT K z.H0 z.an z.xs
  d2 : z.tl ≠ z.lf
  d3 : z.tl ≠ z.fl
  d4 : z.lf ≠ z.fl
def StH (K : PySem.W.Frag) (CF CR : Addr) (z : Sh) (H : Hp) (m : Sm) : Prop := ∃ as ev, StA K CF CR z H m as ev
theorem StA.ex {K : PySem.W.Frag} {CF CR : Addr} {z : Sh} {H H' : Hp} {m : Sm} {as : List (Addr × Addr)} {ev : V} (S : StA K CF CR z H m as ev) (e : Ex [] H H') : StA K CF CR z H' m as ev := by
  obtain ⟨ls, h3, h4⟩ := S.lf
  exact ⟨S.R.ex e (by simp), S.en.ex e, e.lst S.fl, S.S.ex e (by simp) (by simp), e.lst S.tl, ⟨ls, e.lst h3, h4.ex e⟩, S.b.trans e, S.n0, S.n1, S.u1, S.u2, S.pg, S.an, S.d2, S.d3, S.d4⟩
/-- the bounds of a run -/
structure Bd (z : Sh) (m : Sm) : Prop where
  kd : z.kd.length < 64
  Ws : z.Ws.length ≤ 20
  st : m.st ≤ 1000
  told : m.told.length ≤ m.st
  left : m.left.length + 64 * m.fs.length ≤ 64 * (m.st + 1)
  okp : ∀ F ∈ m.fs, z.R.okp F.pd
def isCh : Wo → Bool
  | .choose _ => true
  | _ => false
def idx (W : Wo) (ans : Int) : Nat := if isCh W = true then ans.toNat else 0
noncomputable def plainM (R : Pr) (W : Wo) (ans : Int) (m : Sm) : Sm := match m.fs with
  | [] => m
  | F :: fs => { m with fs := ⟨R.go F.pd (idx W ans), stF F.f ans W⟩ :: fs, told := m.told ++ tellW F.f W, left := m.left ++ leftW F.pd F.f W }
theorem nd_sub {α : Type} [DecidableEq α] : ∀ {l r : List α}, l.Nodup → l ⊆ r → l.length ≤ r.length
  | [], _, _, _ => Nat.zero_le _
  | x :: l, r, h, s => by
    rw [List.nodup_cons] at h
    have mx : x ∈ r := s List.mem_cons_self
    have := nd_sub (r := r.erase x) h.2 fun y my => by
      have ne : y ≠ x := fun e => h.1 (e ▸ my)
      exact (List.mem_erase_of_ne ne).mpr (s (List.mem_cons_of_mem _ my))
    rw [List.length_erase_of_mem mx] at this
    have : 0 < r.length := List.length_pos_of_mem mx
    rw [List.length_cons]; omega
/-- a dict of boxes has no more of them than there are -/
theorem Hd.few {K : PySem.W.Frag} {H : Hp} {b : Addr} {kd Ws : List Str} {n : Nat} {f : Bq → Wv} (h : Hd K H b kd Ws n f) : Hd K H b kd Ws kd.length f := by
  obtain ⟨kvs, h1, h2, h3, h4, r⟩ := h
  refine ⟨kvs, h1, ?_, h3, h4, r⟩
  have : (kvs.map (·.1)) ⊆ kd.map qK := fun x m => by
    obtain ⟨kv, m1, e⟩ := List.mem_map.mp m
    obtain ⟨q, e1, e2⟩ := h4 kv m1
    rw [← e, e1]
    exact List.mem_map.mpr ⟨q, e2, rfl⟩
  have l := nd_sub h3 this
  rw [List.length_map, List.length_map] at l
  exact l
theorem isCh_k {W : Wo} : (isCh W = true ∧ kW W = Str.ofString "choose" ∧ ∃ rs, W = .choose rs) ∨ (isCh W = false ∧ ¬ kW W = Str.ofString "choose") := by
  cases W with
  | choose rs => exact .inl ⟨rfl, rfl, rs, rfl⟩
  | take b s => exact .inr ⟨rfl, (show ¬ Str.ofString "take" = Str.ofString "choose" by decide +kernel)⟩
  | ask b => exact .inr ⟨rfl, (show ¬ Str.ofString "ask" = Str.ofString "choose" by decide +kernel)⟩
  | number b n => exact .inr ⟨rfl, (show ¬ Str.ofString "number" = Str.ofString "choose" by decide +kernel)⟩
  | copy b c => exact .inr ⟨rfl, (show ¬ Str.ofString "copy" = Str.ofString "choose" by decide +kernel)⟩
  | mix b c d => exact .inr ⟨rfl, (show ¬ Str.ofString "mix" = Str.ofString "choose" by decide +kernel)⟩
  | opn b c => exact .inr ⟨rfl, (show ¬ Str.ofString "open" = Str.ofString "choose" by decide +kernel)⟩
  | tell b => exact .inr ⟨rfl, (show ¬ Str.ofString "tell" = Str.ofString "choose" by decide +kernel)⟩
  | wipe b => exact .inr ⟨rfl, (show ¬ Str.ofString "wipe" = Str.ofString "choose" by decide +kernel)⟩
  | clear x => exact .inr ⟨rfl, (show ¬ Str.ofString "clear" = Str.ofString "choose" by decide +kernel)⟩
  | drop bs => exact .inr ⟨rfl, (show ¬ Str.ofString "drop" = Str.ofString "choose" by decide +kernel)⟩
  | risk x => exact .inr ⟨rfl, (show ¬ Str.ofString "risk" = Str.ofString "choose" by decide +kernel)⟩
  | fault x => exact .inr ⟨rfl, (show ¬ Str.ofString "fault" = Str.ofString "choose" by decide +kernel)⟩
  | back => exact .inr ⟨rfl, (show ¬ Str.ofString "back" = Str.ofString "choose" by decide +kernel)⟩
  | call x ca cg => exact .inr ⟨rfl, (show ¬ Str.ofString "call" = Str.ofString "choose" by decide +kernel)⟩
  | loop rr => exact .inr ⟨rfl, (show ¬ Str.ofString "loop" = Str.ofString "choose" by decide +kernel)⟩
  | out n => exact .inr ⟨rfl, (show ¬ Str.ofString "out" = Str.ofString "choose" by decide +kernel)⟩
section
variable {P : Program} {w : World} {K : PySem.W.Frag} {mg : Str → Option Value} {base : Heap}
theorem FrH.place {CF : Addr} {H : Hp} {fr b : Addr} {pl z : V} {dx : Addr} {fs : List (Str × V)} (h1 : fs.lookup ("boxes" : Str) = some (.ref b) ∧ fs.lookup ("place" : Str) = some pl ∧ fs.lookup ("holds" : Str) = none ∧ fs.lookup ("held" : Str) = none ∧ fs.length ≤ 10) :
    FrH CF (upd H fr (.ins CF dx (putF "place" z fs))) fr b z := by
  obtain ⟨a1, a2, a3, a4, a5⟩ := h1
  refine ⟨dx, _, upd_same, ?_, ?_, ?_, ?_, ?_⟩
  · rw [lookup_putF, if_neg (by decide +kernel)]; exact a1
  · rw [lookup_putF, if_pos rfl]
  · rw [lookup_putF, if_neg (by decide +kernel)]; exact a3
  · rw [lookup_putF, if_neg (by decide +kernel)]; exact a4
  · rw [putF_len (by rw [a2]; simp)]; exact a5
/-- the addresses of a run are unlike -/
structure Un (z : Sh) (a : Addr × Addr) (as : List (Addr × Addr)) : Prop where
  nb : z.nw ≠ a.2
  ntl : z.nw ≠ z.tl
  nlf : z.nw ≠ z.lf
  nfl : z.nw ≠ z.fl
  nf : z.nw ≠ a.1
  fb : a.1 ≠ a.2
  ftl : a.1 ≠ z.tl
  flf : a.1 ≠ z.lf
  ffl : a.1 ≠ z.fl
  btl : a.2 ≠ z.tl
  blf : a.2 ≠ z.lf
  bfl : a.2 ≠ z.fl
  o : ∀ c ∈ as, c.1 ≠ a.1 ∧ c.2 ≠ a.2 ∧ c.1 ≠ a.2 ∧ c.2 ≠ a.1
  on : ∀ c ∈ as, c.1 ≠ z.nw ∧ c.1 ≠ z.tl ∧ c.1 ≠ z.lf ∧ c.1 ≠ z.fl ∧ c.2 ≠ z.nw ∧ c.2 ≠ z.tl ∧ c.2 ≠ z.lf ∧ c.2 ≠ z.fl
theorem StA.un {CF CR : Addr} {z : Sh} {H : Hp} {m : Sm} {a : Addr × Addr} {as : List (Addr × Addr)} {ev : V} (S : StA K CF CR z H m (a :: as) ev) : Un z a as := by
  obtain ⟨dx, fs, h1, h2⟩ := S.R
  obtain ⟨ls, hlf, _⟩ := S.lf
  have at' := S.S.at
  obtain ⟨⟨da, fa, ha1⟩, ⟨kvs, ha2⟩⟩ := at' a List.mem_cons_self
  have u1 := S.u1
  have u2 := S.u2
  rw [List.map_cons, List.nodup_cons] at u1 u2
  refine ⟨ne_of h1 ha2 (by intro z; cases z), ne_of h1 S.tl (by intro z; cases z), ne_of h1 hlf (by intro z; cases z), ne_of h1 S.fl (by intro z; cases z), (S.n1 a List.mem_cons_self).2.2, ne_of ha1 ha2 (by intro z; cases z), ne_of ha1 S.tl (by intro z; cases z), ne_of ha1 hlf (by intro z; cases z), ne_of ha1 S.fl (by intro z; cases z),
    ne_of ha2 S.tl (by intro z; cases z), ne_of ha2 hlf (by intro z; cases z), ne_of ha2 S.fl (by intro z; cases z), fun c mc => ?_, fun c mc => ?_⟩
  · obtain ⟨⟨dc, fc, hc1⟩, ⟨kvc, hc2⟩⟩ := at' c (List.mem_cons_of_mem _ mc)
    exact ⟨fun e => u1.1 (by rw [← e]; exact List.mem_map.mpr ⟨c, mc, rfl⟩), fun e => u2.1 (by rw [← e]; exact List.mem_map.mpr ⟨c, mc, rfl⟩), ne_of hc1 ha2 (by intro z; cases z), ne_of hc2 ha1 (by intro z; cases z)⟩
  · obtain ⟨⟨dc, fc, hc1⟩, ⟨kvc, hc2⟩⟩ := at' c (List.mem_cons_of_mem _ mc)
    exact ⟨((S.n1 c (List.mem_cons_of_mem _ mc)).2.2 ·.symm), ne_of hc1 S.tl (by intro z; cases z), ne_of hc1 hlf (by intro z; cases z), ne_of hc1 S.fl (by intro z; cases z), ne_of hc2 h1 (by intro z; cases z), ne_of hc2 S.tl (by intro z; cases z), ne_of hc2 hlf (by intro z; cases z), ne_of hc2 S.fl (by intro z; cases z)⟩
def spPlain (K : PySem.W.Frag) (CF CR : Addr) (G : Pr → Prop) : Sp := fun vs H Q _ => ∃ (z : Sh) (m : Sm) (F : Fr) (fs : List Fr) (W : Wo) (wv : V) (ans : Int), vs = [.ref z.nw, wv, .int ans] ∧ StH K CF CR z H m ∧ G z.R ∧ Bd z m ∧ m.fs = F :: fs ∧ z.R.wd F.pd = some W ∧ Tp K H wv (wD W) ∧ plainW W = true ∧ okW z.kd z.Ws W ∧ (isCh W = true → 0 ≤ ans ∧ ans < chW W) ∧
  ∀ H', StH K CF CR z H' (plainM z.R W ans m) → Q .non H'
theorem ok_plain {f CF CR f1 f2 : Addr} {fd d1 d2 : FuncData} {k : Nat} {G : Pr → Prop} (F : Fun K "do_plain" "do_plain" s_plain f fd) (T : TR K mg CR) (TFr : TF K mg CF) (C_do : Cl P w K mg base k "do_boxes" ["now", "frame", "word", "answer"] (spDo K CF CR) f1 d1) (C_leads : Cl P w K mg base k "leads_of" ["program", "place"] (spLeads K G) f2 d2) :
    FnOk P w K mg base CX0 (k + 1) f fd ["now", "word", "answer"] (spPlain K CF CR G) := by
  refine F.ok sc_plain (fun vs H Q E h => ?_) (fun cdv A outer s H vs Q E hr h => ?_)
  · obtain ⟨z, m, F, fs, W, wv, ans, rfl, _⟩ := h; rfl
  · obtain ⟨z, m, F, fs, W, wv, ans, rfl, ⟨as, ev, S⟩, hG, B, ef, hW, tw, pW, okw, hch, q⟩ := h
    refine ⟨_, (pss_cons (ps_set (i := 3) sc_plain.nd rfl (.inl rfl) (pe_ix ix_list (pe_fld (pv 0) rfl) (pe_un un_neg pe_int) (fun _ _ => rfl)))
      (pss_cons (ps_expr (pe_call C_do.g hr (by rfl) C_do.m C_do.k C_do.b .nil pass0 (pa_cons (pv 0) (pa_cons (pv 3) (pa_cons (pv 1) (pa_cons (pv 2) pa_nil))))))
      (pss_cons (ps_set (i := 4) sc_plain.nd rfl (.inl rfl) (pe_call C_leads.g hr (by rfl) C_leads.m C_leads.k C_leads.b .nil pass0 (pa_cons (pe_fld (pv 0) rfl) (pa_cons (pe_fld (pv 3) rfl) pa_nil))))
      (pss_one (ps_fld (pv 3) (pe_ifExp (pt_cmpR op_eq (pe_ix ix_tup (pv 1) pe_int (fun _ _ => rfl)) pe_str (nomark _)) (pe_ix ix_tup (pe_ix ix_tup (pv 4) (pv 2) (fun _ _ => rfl)) pe_int (fun _ _ => rfl)) (pe_ix ix_tup (pe_ix ix_tup (pv 4) pe_int (fun _ _ => rfl)) pe_int (fun _ _ => rfl))) rfl))))), ?_⟩
    have hS := S.S
    rw [ef] at hS
    cases hS with
    | cons hX hT =>
    rename_i a as
    have U := S.un
    obtain ⟨fr, b⟩ := a
    obtain ⟨pl, hF, tpl, hD⟩ := hX
    obtain ⟨dx, fs1, h1, h2⟩ := id S.R
    obtain ⟨ls, hlf, tls⟩ := S.lf
    obtain ⟨dF, fF, g1, g2, g3, g4, g5, g6⟩ := id hF
    obtain ⟨kvs, k1, _⟩ := id hD
    have eF : frV ((fr, b) :: as) = frV as ++ [.ref fr] := by unfold frV; rw [List.map_cons, List.reverse_cons]
    have hfl := S.fl
    rw [eF] at hfl
    have okF := B.okp F (by rw [ef]; exact List.mem_cons_self)
    have ll : m.left.length ≤ 100000 := by have := B.left; have := B.st; omega
    have lt : m.told.length ≤ 1000 := Nat.le_trans B.told B.st
    have hk := B.kd
    have hn0 := S.n0
    have hn1 := S.n1 (fr, b) List.mem_cons_self
    have pgH : Tp K H z.prg z.R.d := S.pg.ex S.b
    refine ⟨.ref z.nw, rfl, z.nw, CR, dx, fs1, .ref z.fl, rfl, h1, T.cl, T.n7, h2.fl, 1, rfl, z.fl, _, -1, .ref fr, rfl, rfl, .of hfl, atI_last _ _, ?_⟩
    refine ⟨.ref z.nw, rfl, .ref fr, rfl, wv, rfl, .int ans, rfl, z.nw, fr, b, z.tl, z.lf, pl, wv, ans, W, z.kd, z.Ws, z.kd.length, F.pd, F.f, m.told, ls, m.left, rfl, ⟨dx, fs1, h1, h2.tl, h2.lf, h2.m4⟩, S.tl, lt, hlf, tls, ll, S.d2, tw, okw, hF, tpl, hD, by omega, B.Ws, fun H1 ls1 x1 hD1 ht1 hl1 tl1 => ?_⟩
    have hR1 := S.R.ex x1 (by simp [U.nb, U.ntl, U.nlf])
    have hF1 : FrH CF H1 fr b pl := hF.ex x1 (by simp [U.fb, U.ftl, U.flf])
    have hfl1 : H1 z.fl = some (.lst (frV ((fr, b) :: as))) := x1.lst S.fl (by simp [U.bfl.symm, S.d3.symm, S.d4.symm])
    obtain ⟨dx1, fs2, h11, h12⟩ := id hR1
    obtain ⟨dF1, fF1, g11, g12⟩ := id hF1
    refine ⟨.ref z.nw, rfl, z.nw, CR, dx1, fs2, z.prg, rfl, h11, T.cl, T.n0, h12.prg, .ref fr, rfl, fr, CF, dF1, fF1, pl, rfl, g11, TFr.cl, TFr.nP, g12.2.1, z.prg, pl, z.R, F.pd, W, rfl, hG, pgH.ex x1, okF, tpl.ex x1, hW, pW, fun H2 t os x2 ht ho => ?_⟩
    obtain ⟨wa, r0, rfl, hs, _⟩ := word_in tw
    have hs2 := x2.seqT (x1.seqT hs)
    have hF2 := hF1.ex x2 (by simp)
    obtain ⟨dF2, fF2, g21, g22⟩ := id hF2
    have x12 : Ex [b, z.tl, z.lf] H H2 := x1.trans (x2.mono (by simp))
    have fin : ∀ zv : V, Tp K H2 zv (z.R.go F.pd (idx W ans)) → Q .non (upd H2 fr (.ins CF dF2 (putF "place" zv fF2))) := fun zv tz => by
      have x3 : Ex [fr] H2 (upd H2 fr (.ins CF dF2 (putF "place" zv fF2))) := .put g21 (fun _ z => by cases z) (by simp)
      have x13 : Ex [fr, b, z.tl, z.lf] H (upd H2 fr (.ins CF dF2 (putF "place" zv fF2))) := (x12.mono (by simp)).trans (x3.mono (by simp))
      have x23 : Ex [fr] H1 (upd H2 fr (.ins CF dF2 (putF "place" zv fF2))) := (x2.mono (by simp)).trans x3
      refine q _ ⟨(fr, b) :: as, ev, ?_⟩
      have em : plainM z.R W ans m = { m with fs := ⟨z.R.go F.pd (idx W ans), stF F.f ans W⟩ :: fs, told := m.told ++ tellW F.f W, left := m.left ++ leftW F.pd F.f W } := by
        unfold plainM; rw [ef]
      rw [em]
      refine ⟨hR1.ex x23 (by simpa using U.nf), S.en.ex x13, x23.lst hfl1 (by simpa using U.ffl.symm), .cons ⟨zv, FrH.place g22, tz.ex x3, (hD1.ex x23 (by simpa using U.fb.symm)).few⟩ (hT.ex x13 (fun c mc => ?_) fun c mc => ?_), x23.lst ht1 (by simpa using U.ftl.symm), ⟨ls1, x23.lst hl1 (by simpa using U.flf.symm), tl1.ex x23⟩,
        Ex.owns (by simp [hn0.2.1, hn0.2.2.1, hn1.1, hn1.2.1]) S.b x13, S.n0, S.n1, S.u1, S.u2, S.pg, S.an, S.d2, S.d3, S.d4⟩
      · obtain ⟨o1, o2, o3, o4⟩ := U.o c mc
        obtain ⟨p1, p2, p3, p4, p5, p6, p7, p8⟩ := U.on c mc
        simp [o1, o3, p2, p3]
      · obtain ⟨o1, o2, o3, o4⟩ := U.o c mc
        obtain ⟨p1, p2, p3, p4, p5, p6, p7, p8⟩ := U.on c mc
        simp [o2, o4, p6, p7]
    refine ⟨.ref wa, rfl, wa, _, 0, _, rfl, rfl, hs2, at0, rfl, _, rfl, ?_⟩
    rcases isCh_k (W := W) with ⟨c1, c2, rs, rfl⟩ | ⟨c1, c2⟩
    · obtain ⟨a0, a1⟩ := hch rfl
      have a2 : ans.toNat < rs.length := by
        have : ans < (rs.length : Int) := a1
        omega
      obtain ⟨o, u, zv, e1, e2, e3⟩ := ho ans.toNat a2
      have ea : ans = (ans.toNat : Int) := by omega
      refine sY ⟨.ref t, rfl, .int ans, rfl, t, _, ans, .ref o, rfl, rfl, ht, (by rw [ea]; exact atN e1), o, _, 1, zv, rfl, rfl, e2, at1, .ref fr, rfl, fr, CF, dF2, fF2, rfl, g21, TFr.cl, TFr.nP, by have := g22.2.2.2.2; omega, fin zv e3⟩
    · have i0 : idx W ans = 0 := by unfold idx; rw [c1]; rfl
      have nl : nLead W = 1 := by cases W <;> first | rfl | cases c1
      obtain ⟨o, u, zv, e1, e2, e3⟩ := ho 0 (by rw [nl]; decide)
      refine sN c2 ⟨.ref t, rfl, t, _, 0, .ref o, rfl, rfl, ht, atN (j := 0) e1, o, _, 1, zv, rfl, rfl, e2, at1, .ref fr, rfl, fr, CF, dF2, fF2, rfl, g21, TFr.cl, TFr.nP, by have := g22.2.2.2.2; omega, fin zv ?_⟩
      rw [i0]; exact e3
end
end K13

set_option maxHeartbeats 4000000
namespace K13
open PySem PySem.Spec PyProof.Rows L2 Kk RZ
abbrev s_call : Stmt := topS 32
abbrev n_call : List Str := ["now", "word", "frame", "inner", "params", "arg", "param"]
theorem sc_call : FnScope n_call ["now", "word"] (defScope s_call) := ⟨rfl, rfl, rfl, by decide +kernel, rfl, by decide +kernel, by decide +kernel⟩
theorem walk_zipT {K : PySem.W.Frag} {a b : Addr} {xs ys : List V} {n : Nat} (hn : n = min xs.length ys.length) : Walk (ItzT K a b) n (fun H => SqT K H a xs ∧ SqT K H b ys) (YPair (fun i => xs[i]?) (fun i => ys[i]?)) := by
  subst hn
  refine ⟨fun i _ hi q => ?_, fun _ q => ⟨xs, ys, q.1, q.2, by omega⟩, fun i H v H' _ q y => ?_⟩
  · have h1 : i < xs.length := by omega
    have h2 : i < ys.length := by omega
    exact ⟨xs, ys, xs[i], ys[i], q.1, q.2, by simp [h1], by simp [h2]⟩
  · obtain ⟨T, x, z, h1, h2, h3, h4, h5⟩ := y
    exact ⟨T, x, z, h1, h2, h3, h4 xs q.1, h5 ys q.2⟩
def zF : Bq → Wv := fun _ => (0, [])
/-- a box put -/
theorem Hd.set {K : PySem.W.Frag} {H : Hp} {b : Addr} {kd Ws : List Str} {n : Nat} {f : Bq → Wv} {q : Bq} {v : V} {x : Wv} (h : Hd K H b kd Ws n f) (hk : kd.length < 64) (hq : q ∈ kd) (hv : Tp K H v (wvD x)) (hx : x.2.Nodup ∧ ∀ s ∈ x.2, s ∈ Ws) :
    ∃ kvs, H b = some (.dK kvs) ∧ kvs.length < sizeLine ∧ Ex [b] H (upd H b (.dK (putK kvs (qK q) v))) ∧ Hd K (upd H b (.dK (putK kvs (qK q) v))) b kd Ws kd.length (setF f q x) := by
  obtain ⟨kvs, h1, h2, h3, h4, h5, h6, h7⟩ := h.few
  exact ⟨kvs, h1, by rw [sizeLine_eq]; omega, .put h1 (fun _ z => by cases z) (by simp), (Hd.put h1 h2 h3 h4 h5 h6 h7 hq hv hx).few⟩
theorem Hd.ws {K : PySem.W.Frag} {H : Hp} {b : Addr} {kd Ws : List Str} {n : Nat} {f : Bq → Wv} (h : Hd K H b kd Ws n f) (q : Bq) : (f q).2.Nodup ∧ ∀ s ∈ (f q).2, s ∈ Ws := by
  obtain ⟨kvs, _, _, _, _, _, _, h7⟩ := h
  exact h7 q
theorem hd_new {K : PySem.W.Frag} {H : Hp} {b : Addr} {kd Ws : List Str} (h : H b = some (.dK [])) : Hd K H b kd Ws 0 zF :=
  ⟨[], h, Nat.le_refl _, (by simp), (fun kv m => nomatch m), (fun q v e => nomatch e), (fun q _ => rfl), fun q => ⟨(by simp [zF]), fun s m => nomatch m⟩⟩
/-- what the program promises its run -/
structure PrOk (R : Pr) (kd Ws : List Str) : Prop where
  nm : ∀ pd, R.okp pd → ∃ r, pd = .tuple (.str (R.pn pd) :: r)
  call : ∀ pd x ca cg, R.okp pd → R.wd pd = some (.call x ca cg) → R.okp (plcD x 0) ∧ (∀ s ∈ ca, s ∈ kd) ∧ (∀ s ∈ cg, s ∈ kd) ∧ ∀ s ∈ (R.hd x).1, s ∈ kd
  bh : ∀ pd W, R.okp pd → R.wd pd = some W → R.okp (R.bh pd)
  go : ∀ pd W j, R.okp pd → R.wd pd = some W → plainW W = true → j < nLead W → R.okp (R.go pd j)
  okw : ∀ pd W, R.okp pd → R.wd pd = some W → okW kd Ws W
  chs : ∀ pd rs, R.okp pd → R.wd pd = some (.choose rs) → 0 < rs.length
theorem PrOk.pn {R : Pr} {kd Ws : List Str} (h : PrOk R kd Ws) {x : Str} {n : Nat} (o : R.okp (plcD x n)) : R.pn (plcD x n) = x := by
  obtain ⟨r, e⟩ := h.nm _ o
  unfold plcD at e
  injection e with e
  injection e with e1 e2
  injection e1 with e1
  exact e1.symm
def hand (s : (Bq → Wv) × (Bq → Wv)) (p : Str × Str) : (Bq → Wv) × (Bq → Wv) := (setF s.1 p.2 (s.2 p.1), setF s.2 p.1 (0, []))
def handF (f : Bq → Wv) (ps : List (Str × Str)) : (Bq → Wv) × (Bq → Wv) := ps.foldl hand (zF, f)
def callM (R : Pr) (x : Str) (ca : List Str) (m : Sm) : Sm := match m.fs with
  | [] => m
  | F :: fs => { m with fs := ⟨plcD x 0, (handF F.f (ca.zip (R.hd x).1)).1⟩ :: ⟨F.pd, (handF F.f (ca.zip (R.hd x).1)).2⟩ :: fs }
section
variable {P : Program} {w : World} {K : PySem.W.Frag} {mg : Str → Option Value} {base : Heap}
def spCall (K : PySem.W.Frag) (CF CR : Addr) (G : Pr → Prop) : Sp := fun vs H Q _ => ∃ (z : Sh) (m : Sm) (F : Fr) (fs : List Fr) (x : Str) (ca cg : List Str) (wv : V), vs = [.ref z.nw, wv] ∧ StH K CF CR z H m ∧ G z.R ∧ PrOk z.R z.kd z.Ws ∧ Bd z m ∧ m.fs = F :: fs ∧ z.R.wd F.pd = some (.call x ca cg) ∧ Tp K H wv (wD (.call x ca cg)) ∧
  ∀ H', StH K CF CR z H' (callM z.R x ca m) → Q .non H'
theorem ok_call {f CF CR fI fH nA eA f1 f2 : Addr} {fd fdI fdH d1 d2 : FuncData} {k : Nat} {G : Pr → Prop} (F : Fun K "do_call" "do_call" s_call f fd) (T : TR K mg CR) (TFr : TF K mg CF) (N : Nth K mg nA eA) (MF : Mk K CF fI) (GI : FnOk P w K mg base CX0 k fI fdI ["self", "place"] (spFInit CF)) (bI : Binds K fdI ["self", "place"] [])
    (GH : FnOk P w K mg base CX0 (k + 1) fH fdH ["self", "box"] (spHolds K CF)) (mH : Meth K CF "holds" fH) (bH : Binds K fdH ["self", "box"] [])
    (C_first : Cl P w K mg base (k + 1) "first_place" ["program", "name"] spFirst f1 d1) (C_head : Cl P w K mg base (k + 1) "head_of" ["program", "name"] (spHead K G) f2 d2) (m_zip : mg "zip" = none) :
    FnOk P w K mg base CX0 (k + 2) f fd ["now", "word"] (spCall K CF CR G) := by
  refine F.ok sc_call (fun vs H Q E h => ?_) (fun cdv A outer s H vs Q E hr h => ?_)
  · obtain ⟨z, m, F, fs, x, ca, cg, wv, rfl, _⟩ := h; rfl
  · obtain ⟨z, m, F, fs, x, ca, cg, wv, rfl, ⟨as, ev, S⟩, hG, PO, B, ef, hW, tw, q⟩ := h
    refine ⟨_, (pss_cons (ps_set (i := 2) sc_call.nd rfl (.inl rfl) (pe_ix ix_list (pe_fld (pv 0) rfl) (pe_un un_neg pe_int) (fun _ _ => rfl)))
      (pss_cons (ps_set (i := 3) sc_call.nd rfl (.inl rfl) (pe_make MF GI hr (by rfl) TFr.mgC bI .nil pass0 (pa_cons (pe_call C_first.g hr (by rfl) C_first.m C_first.k C_first.b .nil pass0 (pa_cons (pe_fld (pv 0) rfl) (pa_cons (pe_ix ix_tup (pv 1) pe_int (fun _ _ => rfl)) pa_nil))) pa_nil)))
      (pss_cons (ps_set (i := 4) sc_call.nd rfl (.inl rfl) (pe_ix ix_tup (pe_call C_head.g hr (by rfl) C_head.m C_head.k C_head.b .nil pass0 (pa_cons (pe_fld (pv 0) rfl) (pa_cons (pe_ix ix_tup (pv 1) pe_int (fun _ _ => rfl)) pa_nil))) pe_int (fun _ _ => rfl)))
      (pss_cons (ps_for PassesOwn.never rfl (pi_zipA (by rfl) m_zip (pa_cons (pe_ix ix_tup (pv 1) pe_int (fun _ _ => rfl)) (pa_cons (pv 4) pa_nil))) (pg_tup rfl (pgs_cons (pg_name (i := 5) sc_call.nd rfl (.inl rfl)) (pgs_cons (pg_name (i := 6) sc_call.nd rfl (.inl rfl)) pgs_nil)))
        (pss_cons (ps_dput (hu_of hr) (pe_fld (pv 3) rfl) (pv 6) (pe_meth (pv 2) TFr.cl mH GH hr bH .nil pass0 (pa_cons (pv 5) pa_nil)) rfl) (pss_one (ps_dput (hu_of hr) (pe_fld (pv 2) rfl) (pv 5) (pe_glob (v := .ref nA) rfl N.m rfl) rfl))))
      (pss_one (ps_expr (pe_bm PySem.F.plainAttrs_list PySem.F.slot_list_append PySem.F.type_list_append mt_append (pe_fld (pv 0) rfl) (pa_cons (pv 3) pa_nil)))))))), ?_⟩
    have hS := S.S
    rw [ef] at hS
    cases hS with
    | cons hX hT =>
    rename_i a as
    have U := S.un
    obtain ⟨fr, b⟩ := a
    obtain ⟨pl, hF, tpl, hD⟩ := hX
    obtain ⟨dx, fs1, h1, h2⟩ := id S.R
    obtain ⟨ls, hlf, tls⟩ := S.lf
    have eF : frV ((fr, b) :: as) = frV as ++ [.ref fr] := by unfold frV; rw [List.map_cons, List.reverse_cons]
    have hfl := S.fl
    rw [eF] at hfl
    have okF := B.okp F (by rw [ef]; exact List.mem_cons_self)
    obtain ⟨okC, kca, kcg, khd⟩ := PO.call _ _ _ _ okF hW
    have epn := PO.pn okC
    have hk := B.kd
    have hn0 := S.n0
    have hn1 := S.n1 (fr, b) List.mem_cons_self
    have pgH : Tp K H z.prg z.R.d := S.pg.ex S.b
    obtain ⟨wa, r0, rfl, hs, hr0⟩ := word_in tw
    obtain ⟨r1, rfl, hr1⟩ := one_s hr0
    cases hr1 with
    | cons hca hr2 =>
    cases hca with
    | tup hsa haa =>
    rename_i caA caX
    obtain rfl := strs_inv haa
    refine ⟨.ref z.nw, rfl, z.nw, CR, dx, fs1, .ref z.fl, rfl, h1, T.cl, T.n7, h2.fl, 1, rfl, z.fl, _, -1, .ref fr, rfl, rfl, .of hfl, atI_last _ _, ?_⟩
    refine ⟨.ref z.nw, rfl, z.nw, CR, dx, fs1, z.prg, rfl, h1, T.cl, T.n0, h2.prg, .ref wa, rfl, wa, _, 1, _, rfl, rfl, hs, at1, z.prg, .str x, rfl, fun t nt x1 dx1 nx ndx nex => ?_⟩
    have xt : Ex [] H (upd H t (.tup [.str x, .int 0])) := .new nt
    have xd : Ex [] (upd H t (.tup [.str x, .int 0])) (upd (upd H t (.tup [.str x, .int 0])) dx1 (.own x1)) := .new ndx
    have nx2 : (upd (upd H t (.tup [.str x, .int 0])) dx1 (.own x1)) x1 = none := by rw [upd_ne nex.symm]; exact nx
    have xx : Ex [] (upd (upd H t (.tup [.str x, .int 0])) dx1 (.own x1)) (upd (upd (upd H t (.tup [.str x, .int 0])) dx1 (.own x1)) x1 (.ins CF dx1 [])) := .new nx2
    have ht3 : (upd (upd (upd H t (.tup [.str x, .int 0])) dx1 (.own x1)) x1 (.ins CF dx1 [])) t = some (.tup [.str x, .int 0]) := xx.tup (xd.tup upd_same)
    have nxH : H x1 = none := upd_free nx
    refine ⟨x1, dx1, .ref t, rfl, upd_same, fun H1 b1 nb1 y1 hF1 hb1 => ⟨rfl, ?_⟩⟩
    have nbH : H b1 = none := upd_free (upd_free (upd_free nb1))
    have w1 : Ex [] H H1 := Ex.own nxH ((xt.trans xd).trans xx) (y1.mono (by simp))
    have tpl1 : Tp K H1 (.ref t) (plcD x 0) := plc_mk (.of (y1.tup ht3))
    have S1 := S.ex w1
    obtain ⟨dx2, fs2, h21, h22⟩ := id S1.R
    refine ⟨.ref z.nw, rfl, z.nw, CR, dx2, fs2, z.prg, rfl, h21, T.cl, T.n0, h22.prg, .ref wa, rfl, wa, _, 1, _, rfl, rfl, w1.seqT hs, at1, z.prg, z.R, plcD x 0, by rw [epn]; rfl, hG, pgH.ex w1, okC, fun H2 th ta tb x2 hth hta htb => ?_⟩
    refine ⟨th, _, 0, .ref ta, rfl, rfl, hth, at0, ?_⟩
    rw [epn] at hta
    have w2 : Ex [] H H2 := w1.trans x2
    have S2 := S.ex w2
    have hF2 : FrH CF H2 x1 b1 (.ref t) := hF1.ex x2 (by simp)
    have hb2 : H2 b1 = some (.dK []) := x2.dK hb1
    have hFo2 : FrH CF H2 fr b pl := hF.ex w2 (by simp)
    have hDo2 : Hd K H2 b z.kd z.Ws z.kd.length F.f := hD.ex w2 (by simp)
    obtain ⟨dF, fF, g1, g2, g3, g4, g5, g6⟩ := id hFo2
    obtain ⟨dI, fI2, i1, i2, _⟩ := id hF2
    obtain ⟨kvo, ko, _⟩ := id hDo2
    have kb0 : ∃ o, H b = some o := by obtain ⟨kv, k1, _⟩ := hD; exact ⟨_, k1⟩
    have b1b : b1 ≠ b := fun e => by obtain ⟨o, k1⟩ := kb0; rw [e, k1] at nbH; cases nbH
    have f1f : x1 ≠ fr := fun e => by obtain ⟨dx, fs, hh, _⟩ := hF; rw [e, hh] at nxH; cases nxH
    have f1b1 : x1 ≠ b1 := ne_of i1 hb2 (by intro z; cases z)
    have f1b : x1 ≠ b := ne_of i1 ko (by intro z; cases z)
    have fb1 : fr ≠ b1 := ne_of g1 hb2 (by intro z; cases z)
    have fb := U.fb
    refine ⟨.ref wa, rfl, wa, _, 2, _, rfl, rfl, w2.seqT hs, at2, .ref ta, rfl, caA, ta, ca.map V.str, _, rfl, .inr ⟨w2.seqT hsa, hta, ?_⟩⟩
    refine for_it (walk_zipT (xs := ca.map V.str) (ys := (z.R.hd x).1.map V.str) rfl) (fun i σ H3 => ∃ y5 y6, σ = [some (.ref z.nw), some (.ref wa), some (.ref fr), some (.ref x1), some (.ref ta), y5, y6] ∧ Ex [b, b1] H2 H3 ∧
      Hd K H3 b1 z.kd z.Ws z.kd.length (handF F.f ((ca.zip (z.R.hd x).1).take i)).1 ∧ Hd K H3 b z.kd z.Ws z.kd.length (handF F.f ((ca.zip (z.R.hd x).1).take i)).2) ?_ ?_ ?_ ?_
    · exact ⟨_, _, rfl, .refl, (hd_new hb2).mono (Nat.zero_le _), hDo2⟩
    · rintro i σ H3 _ ⟨y5, y6, _, x3, _, _⟩
      exact ⟨x3.seqT (w2.seqT hsa), x3.seqT hta⟩
    · rintro i v σ H3 H4 hi ⟨y5, y6, rfl, x3, hI3, hO3⟩ ⟨T9, v9, u9, rfl, n9, rfl, hx9, hy9⟩
      have hx9 : (ca.map V.str)[i]? = some v9 := hx9
      have hy9 : ((z.R.hd x).1.map V.str)[i]? = some u9 := hy9
      rw [List.getElem?_map] at hx9 hy9
      cases hka : ca[i]? with
      | none => rw [hka] at hx9; cases hx9
      | some ar =>
      cases hkp : (z.R.hd x).1[i]? with
      | none => rw [hkp] at hy9; cases hy9
      | some pr =>
      rw [hka] at hx9
      rw [hkp] at hy9
      cases hx9
      cases hy9
      have x9 : Ex [] H3 (upd H3 T9 (.tup [.str ar, .str pr])) := .new n9
      have ez : (ca.zip (z.R.hd x).1)[i]? = some (ar, pr) := by rw [List.getElem?_zip_eq_some]; exact ⟨hka, hkp⟩
      have mar : ar ∈ z.kd := kca ar (List.mem_of_getElem? hka)
      have mpr : pr ∈ z.kd := khd pr (List.mem_of_getElem? hkp)
      refine ⟨T9, [.str ar, .str pr], rfl, .of upd_same, rfl, _, _, rfl, _, _, rfl, rfl, ?_⟩
      have x29 : Ex [b, b1] H2 (upd H3 T9 (.tup [.str ar, .str pr])) := x3.trans (x9.mono (by simp))
      have hI9 := hI3.ex x9 (by simp)
      have hO9 := hO3.ex x9 (by simp)
      generalize upd H3 T9 (.tup [.str ar, .str pr]) = H9 at x29 hI9 hO9 ⊢
      have hFo9 := hFo2.ex x29 (by simp [fb, fb1])
      have hFi9 := hF2.ex x29 (by simp [f1b, f1b1])
      obtain ⟨dF9, fF9, q1, q2, q3, q4, q5, q6⟩ := id hFo9
      obtain ⟨dI9, fI9, j1, j2, _⟩ := id hFi9
      refine ⟨.ref fr, rfl, fr, dF9, fF9, rfl, q1, q4, .str ar, rfl, fr, b, pl, .str ar, ar, z.kd, z.Ws, _, _, rfl, hFo9, hO9, rfl, fun u hu => ?_⟩
      obtain ⟨kvs, e1, e2, e3, e4⟩ := hI9.set hk mpr hu (hO9.ws ar)
      refine ⟨.ref x1, rfl, x1, CF, dI9, fI9, .ref b1, rfl, j1, TFr.cl, TFr.nB, j2, .str pr, rfl, b1, _, rfl, .inl ⟨kvs, qK pr, e1, rfl, e2, rfl⟩, ?_⟩
      have hO10 := hO9.ex e3 (by simpa using b1b.symm)
      have hFo10 := hFo9.ex e3 (by simpa using fb1)
      obtain ⟨dF10, fF10, p1, p2, _⟩ := id hFo10
      obtain ⟨kvs2, e5, e6, e7, e8⟩ := hO10.set hk mar (N.tp _) ⟨by simp, fun s m => by cases m⟩
      refine ⟨.ref fr, rfl, fr, CF, dF10, fF10, .ref b, rfl, p1, TFr.cl, TFr.nB, p2, .str ar, rfl, b, _, rfl, .inl ⟨kvs2, qK ar, e5, rfl, e6, rfl⟩, ?_⟩
      refine ⟨_, _, rfl, (x29.trans (e3.mono (by simp))).trans (e7.mono (by simp)), ?_, ?_⟩
      · rw [List.take_add_one, ez]
        unfold handF
        rw [List.foldl_append]
        exact e4.ex e7 (by simpa using b1b)
      · rw [List.take_add_one, ez]
        unfold handF
        rw [List.foldl_append]
        exact e8
    · rintro σ H3 ⟨y5, y6, rfl, x3, hI3, hO3⟩
      have e6 : min (ca.map V.str).length ((z.R.hd x).1.map V.str).length = (ca.zip (z.R.hd x).1).length := by rw [List.length_map, List.length_map, List.length_zip]
      rw [e6, List.take_length] at hI3 hO3
      have nwb1 : z.nw ≠ b1 := fun e => by rw [← e, h1] at nbH; cases nbH
      have tlb1 : z.tl ≠ b1 := fun e => by rw [← e, S.tl] at nbH; cases nbH
      have lfb1 : z.lf ≠ b1 := fun e => by rw [← e, hlf] at nbH; cases nbH
      have flb1 : z.fl ≠ b1 := fun e => by rw [← e, S.fl] at nbH; cases nbH
      have nwx1 : z.nw ≠ x1 := fun e => by rw [← e, h1] at nxH; cases nxH
      have hR3 := S2.R.ex x3 (by simp [U.nb, nwb1])
      obtain ⟨dx3, fs3, h31, h32⟩ := id hR3
      have hfl3 : H3 z.fl = some (.lst (frV ((fr, b) :: as))) := x3.lst S2.fl (by simp [U.bfl.symm, flb1])
      have len := S.S.len
      have l64 := B.left
      have lst := B.st
      refine ⟨.ref z.nw, rfl, z.nw, CR, dx3, fs3, .ref z.fl, rfl, h31, T.cl, T.n7, h32.fl, .inl ⟨rfl, _, .of hfl3⟩, .ref x1, rfl, z.fl, _, _, rfl, rfl, hfl3, ?_, ?_⟩
      · unfold frV
        rw [List.length_reverse, List.length_map, len, sizeLine_eq]; omega
      have xp : Ex [z.fl] H3 (upd H3 z.fl (.lst (frV ((fr, b) :: as) ++ [.ref x1]))) := .put hfl3 nt_lst (by simp)
      have x24 : Ex [b, b1, z.fl] H2 (upd H3 z.fl (.lst (frV ((fr, b) :: as) ++ [.ref x1]))) := (x3.mono (by simp)).trans (xp.mono (by simp))
      have hflx : z.fl ≠ x1 := fun e => by rw [← e, S.fl] at nxH; cases nxH
      have em : callM z.R x ca m = { m with fs := ⟨plcD x 0, (handF F.f (ca.zip (z.R.hd x).1)).1⟩ :: ⟨F.pd, (handF F.f (ca.zip (z.R.hd x).1)).2⟩ :: fs } := by
        unfold callM; rw [ef]
      refine q _ ⟨(x1, b1) :: (fr, b) :: as, ev, ?_⟩
      rw [em]
      obtain ⟨ls2, hl2, tl2⟩ := S2.lf
      have fr0 : ∀ c, c ∈ (fr, b) :: as → (∃ o, H c.1 = some o) ∧ ∃ o, H c.2 = some o := fun c mc => by
        obtain ⟨⟨dc, fc, hc1⟩, ⟨kvc, hc2⟩⟩ := S.S.at c mc
        exact ⟨⟨_, hc1⟩, ⟨_, hc2⟩⟩
      refine ⟨hR3.ex xp (by simpa using U.nfl), (S2.en.ex x24), ?_, .cons ⟨.ref t, hF2.ex x24 (by simp [f1b, f1b1, hflx.symm]), (tpl1.ex x2).ex x24, hI3.ex xp (by simpa using flb1.symm)⟩ (.cons ⟨pl, hFo2.ex x24 (by simp [fb, fb1, U.ffl]), (tpl.ex w2).ex x24, hO3.ex xp (by simpa using U.bfl)⟩ (hT.ex (w2.mono (by simp) |>.trans x24) (fun c mc => ?_) fun c mc => ?_)),
        x24.lst S2.tl (by simp [U.btl.symm, tlb1, S.d3]), ⟨ls2, x24.lst hl2 (by simp [U.blf.symm, lfb1, S.d4]), tl2.ex x24⟩, ?_, S.n0, fun c mc => ?_, ?_, ?_, S.pg, S.an, S.d2, S.d3, S.d4⟩
      · rw [upd_same]
        show some (HO.lst (frV ((fr, b) :: as) ++ [.ref x1])) = some (.lst ((V.ref x1 :: ((fr, b) :: as).map fun a => V.ref a.1).reverse))
        rw [List.reverse_cons]
      · obtain ⟨o1, o2, o3, o4⟩ := U.o c mc
        obtain ⟨p1, p2, p3, p4, p5, p6, p7, p8⟩ := U.on c mc
        have : c.1 ≠ b1 := fun e => by obtain ⟨⟨o, ho⟩, _⟩ := fr0 c (List.mem_cons_of_mem _ mc); rw [e, nbH] at ho; cases ho
        simp [o3, p4, this]
      · obtain ⟨o1, o2, o3, o4⟩ := U.o c mc
        obtain ⟨p1, p2, p3, p4, p5, p6, p7, p8⟩ := U.on c mc
        have : c.2 ≠ b1 := fun e => by obtain ⟨_, ⟨o, ho⟩⟩ := fr0 c (List.mem_cons_of_mem _ mc); rw [e, nbH] at ho; cases ho
        simp [o2, p8, this]
      · have nb0 : z.H0 b1 = none := S.b.f _ nbH
        exact Ex.owns (by simp [hn1.2.1, nb0, hn0.2.2.2]) S2.b x24
      · rcases List.mem_cons.mp mc with e | e
        · rw [e]
          exact ⟨S.b.f _ nxH, S.b.f _ nbH, nwx1⟩
        · exact S.n1 c e
      · rw [List.map_cons, List.nodup_cons]
        refine ⟨fun mm => ?_, S.u1⟩
        obtain ⟨c, mc, e⟩ := List.mem_map.mp mm
        obtain ⟨⟨o, ho⟩, _⟩ := fr0 c mc
        rw [e, nxH] at ho; cases ho
      · rw [List.map_cons, List.nodup_cons]
        refine ⟨fun mm => ?_, S.u2⟩
        obtain ⟨c, mc, e⟩ := List.mem_map.mp mm
        obtain ⟨_, ⟨o, ho⟩⟩ := fr0 c mc
        rw [e, nbH] at ho; cases ho
end
end K13

set_option maxHeartbeats 4000000
namespace K13
open PySem PySem.Spec PyProof.Rows L2 Kk RZ
abbrev s_back : Stmt := topS 33
abbrev n_back : List Str := ["now", "inner", "results", "frame", "gets", "get", "result", "box"]
theorem sc_back : FnScope n_back ["now"] (defScope s_back) := ⟨rfl, rfl, rfl, by decide +kernel, rfl, by decide +kernel, by decide +kernel⟩
open Classical in
theorem srt_ex (zs : List Str) : ∃ ys : List Str, ys.Perm zs ∧ sortedS ys = true := by
  refine ⟨zs.mergeSort (fun a b => decide (leS a b)), List.mergeSort_perm _ _, sorted_pw ?_⟩
  have := List.pairwise_mergeSort (le := fun a b => decide (leS a b)) (fun a b c hab hbc => decide_eq_true (leS_trans (of_decide_eq_true hab) (of_decide_eq_true hbc)))
    (fun a b => by
      rcases List.le_total a.cps.toList b.cps.toList with z | z
      · rw [Bool.or_eq_true]; exact .inl (decide_eq_true z)
      · rw [Bool.or_eq_true]; exact .inr (decide_eq_true z)) zs
  exact this.imp fun z => of_decide_eq_true z
/-- the boxes with a worth that are none of these, rising -/
def NzR (f : Bq → Wv) (rs qs : List Str) : Prop := qs.Pairwise leS ∧ qs.Nodup ∧ ∀ q, q ∈ qs ↔ ¬ (f q).2 = [] ∧ ¬ q ∈ rs
noncomputable def nzR (f : Bq → Wv) (rs : List Str) : List Str := Classical.epsilon (NzR f rs)
theorem nzR_eq {f : Bq → Wv} {rs qs : List Str} (h : NzR f rs qs) : nzR f rs = qs := by
  have s : NzR f rs (nzR f rs) := Classical.epsilon_spec ⟨qs, h⟩
  exact srt_uniq _ _ s.1 h.1 s.2.1 h.2.1 fun x => by rw [s.2.2 x, h.2.2 x]
noncomputable def endL (pd : PyData) (f : Bq → Wv) (rs : List Str) : List PyData := (nzR f rs).map (entD pd f)
/-- the boxes there are, but these, left -/
theorem leftB_res {pd : PyData} {f : Bq → Wv} {rs bqs : List Str} (nd : bqs.Nodup) (hz : ∀ q, ¬ q ∈ bqs → f q = (0, [])) : leftB pd f (bqs.filter fun q => decide (¬ q ∈ rs)) = endL pd f rs := by
  obtain ⟨ys, pm, srt⟩ := srt_ex (bqs.filter fun q => decide (¬ q ∈ rs))
  unfold leftB endL
  rw [srtS_eq pm srt]
  congr 1
  refine (nzR_eq ⟨(pw_sorted srt).filter _, (pm.nodup_iff.mpr (nd.filter _)).filter _, fun q => ?_⟩).symm
  rw [List.mem_filter, pm.mem_iff, List.mem_filter]
  constructor
  · intro z; exact ⟨of_decide_eq_true z.2, of_decide_eq_true z.1.2⟩
  · intro z
    refine ⟨⟨?_, decide_eq_true z.2⟩, decide_eq_true z.1⟩
    refine Decidable.byContradiction fun nm => z.1 ?_
    rw [hz q nm]
theorem endL_len {K : PySem.W.Frag} {H : Hp} {b : Addr} {kd Ws : List Str} {n : Nat} {pd : PyData} {f : Bq → Wv} {rs : List Str} (h : Hd K H b kd Ws n f) : (endL pd f rs).length ≤ kd.length := by
  obtain ⟨kvs, k1, k2, k3, k4, k5, k6, k7⟩ := h
  have hz : ∀ q, ¬ (f q).2 = [] → q ∈ kd := fun q hq => by
    cases hv : valV kvs (qK q) with
    | none => rw [k6 q hv] at hq; exact absurd rfl hq
    | some v =>
      unfold valV at hv
      cases hf : kvs.find? (fun kv => decide (kv.1 = qK q)) with
      | none => rw [hf] at hv; cases hv
      | some kv =>
        have e := List.find?_some hf
        obtain ⟨q2, e1, e2⟩ := k4 kv (List.mem_of_find?_eq_some hf)
        have e := of_decide_eq_true e
        rw [e1] at e
        rw [← qK_inj e]; exact e2
  unfold endL
  rw [List.length_map]
  by_cases ex : ∃ qs, NzR f rs qs
  · have s : NzR f rs (nzR f rs) := Classical.epsilon_spec ex
    exact nd_sub s.2.1 fun q mq => hz q ((s.2.2 q).mp mq).1
  · refine absurd ?_ ex
    have : ∃ bqs : List Str, bqs.Nodup ∧ ∀ q, ¬ q ∈ bqs → f q = (0, []) := by
      obtain ⟨bqs, eb, ev, hbk⟩ := keys_str k4
      refine ⟨bqs, ?_, fun q nm => ?_⟩
      · rw [eb] at k3
        exact List.Pairwise.of_map qK (fun a b h e => h (by rw [e])) k3
      · refine k6 q ?_
        unfold valV
        have : kvs.find? (fun kv => decide (kv.1 = qK q)) = none := by
          rw [List.find?_eq_none]
          intro p hp e
          have mk : qK q ∈ kvs.map (·.1) := List.mem_map.mpr ⟨p, hp, of_decide_eq_true e⟩
          rw [eb] at mk
          obtain ⟨r', h1, h2⟩ := List.mem_map.mp mk
          exact nm (by rw [← qK_inj h2]; exact h1)
        rw [this]; rfl
    obtain ⟨bqs, nd, hz⟩ := this
    obtain ⟨ys, pm, srt⟩ := srt_ex (bqs.filter fun q => decide (¬ (f q).2 = [] ∧ ¬ q ∈ rs))
    refine ⟨ys, pw_sorted srt, pm.nodup_iff.mpr (nd.filter _), fun q => ?_⟩
    rw [pm.mem_iff, List.mem_filter]
    constructor
    · intro z; exact of_decide_eq_true z.2
    · intro z
      exact ⟨Decidable.byContradiction fun nm => z.1 (by rw [hz q nm]), decide_eq_true z⟩
def getsOf : Option Wo → List Str
  | some (.call _ _ cg) => cg
  | _ => []
def getF (fi fo : Bq → Wv) (ps : List (Str × Str)) : Bq → Wv := ps.foldl (fun s p => setF s p.1 (fi p.2)) fo
noncomputable def backM (R : Pr) (m : Sm) : Sm := match m.fs with
  | [] => m
  | [F] => { m with fs := [], left := m.left ++ endL F.pd F.f (R.hd (R.pn F.pd)).2, en := some [.str (Str.ofString "ended")] }
  | F :: G :: gs => { m with fs := ⟨R.bh G.pd, getF F.f G.f ((getsOf (R.wd G.pd)).zip (R.hd (R.pn F.pd)).2)⟩ :: gs, left := m.left ++ endL F.pd F.f (R.hd (R.pn F.pd)).2 }
section
variable {P : Program} {w : World} {K : PySem.W.Frag} {mg : Str → Option Value} {base : Heap}
def spBack (K : PySem.W.Frag) (CF CR : Addr) (G : Pr → Prop) : Sp := fun vs H Q _ => ∃ (z : Sh) (m : Sm) (F : Fr) (fs : List Fr), vs = [.ref z.nw] ∧ StH K CF CR z H m ∧ G z.R ∧ PrOk z.R z.kd z.Ws ∧ Bd z m ∧ m.fs = F :: fs ∧ m.en = none ∧ (∀ g ∈ fs, ∃ x ca cg, z.R.wd g.pd = some (.call x ca cg)) ∧
  ∀ H', StH K CF CR z H' (backM z.R m) → Q .non H'
theorem ok_back {f CF CR f1 f2 fL fW fH : Addr} {fd d1 d2 fdL fdW fdH : FuncData} {k : Nat} {G : Pr → Prop} (F : Fun K "do_back" "do_back" s_back f fd) (T : TR K mg CR) (TFr : TF K mg CF) (C_head : Cl P w K mg base k "head_of" ["program", "name"] (spHead K G) f1 d1)
    (GL : FnOk P w K mg base CX0 k fL fdL ["self", "frame", "boxes"] (spLeave K CF CR)) (mL : Meth K CR "leave" fL) (bL : Binds K fdL ["self", "frame", "boxes"] []) (GW : FnOk P w K mg base CX0 k fW fdW ["self"] (spWord K CF CR G)) (mW : Meth K CR "word" fW) (bW : Binds K fdW ["self"] [])
    (GH : FnOk P w K mg base CX0 k fH fdH ["self", "box"] (spHolds K CF)) (mH : Meth K CF "holds" fH) (bH : Binds K fdH ["self", "box"] []) (C_beh : Cl P w K mg base k "behind" ["program", "place"] (spBehind K G) f2 d2) (m_list : mg "list" = none) (m_len : mg "len" = none) (m_zip : mg "zip" = none) :
    FnOk P w K mg base CX0 (k + 1) f fd ["now"] (spBack K CF CR G) := by
  refine F.ok sc_back (fun vs H Q E h => ?_) (fun cdv A outer s H vs Q E hr h => ?_)
  · obtain ⟨z, m, F, fs, rfl, _⟩ := h; rfl
  · obtain ⟨z, m, F, fs, rfl, ⟨as, ev, S⟩, hG, PO, B, ef, en0, hcal, q⟩ := h
    refine ⟨_, (pss_cons (ps_set (i := 1) sc_back.nd rfl (.inl rfl) (pe_bm0 PySem.F.plainAttrs_list PySem.F.slot_list_pop PySem.F.type_list_pop mt_pop (pe_fld (pv 0) rfl)))
      (pss_cons (ps_set (i := 2) sc_back.nd rfl (.inr rfl) (pe_ix ix_tup (pe_call C_head.g hr (by rfl) C_head.m C_head.k C_head.b .nil pass0 (pa_cons (pe_fld (pv 0) rfl) (pa_cons (pe_ix ix_tup (pe_fld (pv 1) rfl) pe_int (fun _ _ => rfl)) pa_nil))) pe_int (fun _ _ => rfl)))
      (pss_cons (ps_expr (pe_meth (pv 0) T.cl mL GL hr bL .nil pass0 (pa_cons (pv 1) (pa_cons (pe_lc (own := [("box", 7)]) (g := gName 7) rfl sc_back.nd (pi_list (pe_callTy (call_list_dK rfl) (by rfl) m_list (by decide +kernel) (pa_cons (pe_fld (pv 1) rfl) pa_nil))) (blkOk_by (N := n_back) (sc := defScope s_back) (by decide +kernel)) (fun _ _ _ _ _ => pg_name (i := 7) sc_back.nd rfl (Or.inl rfl))
          (fun _ _ _ _ _ => pts_one (pt_cmpR (op_notInB (K := K) rfl) (pv 7) (pv 2) rfl)) (fun _ _ _ _ _ => pv 7)) pa_nil))))
      (pss_cons (ps_if (pt_cmpR op_eq (pe_callB call_len_seq (by rfl) m_len PySem.boot_len (pa_cons (pe_fld (pv 0) rfl) pa_nil)) pe_int (nomark _)) (pss_cons (ps_fld (pv 0) (pe_tup (pa_cons pe_str pa_nil)) rfl) (pss_one ps_retN)) pss_nil)
      (pss_cons (ps_set (i := 3) sc_back.nd rfl (.inl rfl) (pe_ix ix_list (pe_fld (pv 0) rfl) (pe_un un_neg pe_int) (fun _ _ => rfl)))
      (pss_cons (ps_set (i := 4) sc_back.nd rfl (.inl rfl) (pe_ix ix_tup (pe_meth0 (pv 0) T.cl mW GW hr bW .nil pass0) pe_int (fun _ _ => rfl)))
      (pss_cons (ps_for PassesOwn.never rfl (pi_zipA (by rfl) m_zip (pa_cons (pv 4) (pa_cons (pv 2) pa_nil))) (pg_tup rfl (pgs_cons (pg_name (i := 5) sc_back.nd rfl (.inl rfl)) (pgs_cons (pg_name (i := 6) sc_back.nd rfl (.inl rfl)) pgs_nil)))
        (pss_one (ps_dput (hu_of hr) (pe_fld (pv 3) rfl) (pv 5) (pe_meth (pv 1) TFr.cl mH GH hr bH .nil pass0 (pa_cons (pv 6) pa_nil)) rfl)))
      (pss_one (ps_fld (pv 3) (pe_call C_beh.g hr (by rfl) C_beh.m C_beh.k C_beh.b .nil pass0 (pa_cons (pe_fld (pv 0) rfl) (pa_cons (pe_fld (pv 3) rfl) pa_nil))) rfl))))))))), ?_⟩
    have hS := S.S
    rw [ef] at hS
    cases hS with
    | cons hX hT =>
    rename_i a as
    have U := S.un
    obtain ⟨fr, b⟩ := a
    obtain ⟨pl, hF, tpl, hD⟩ := hX
    obtain ⟨dx, fs1, h1, h2⟩ := id S.R
    obtain ⟨ls, hlf, tls⟩ := S.lf
    obtain ⟨dF, fF, g1, g2, g3, g4, g5, g6⟩ := id hF
    obtain ⟨kvs, k1, k2, k3, k4, k5, k6, k7⟩ := id hD
    obtain ⟨bqs, eb, ev', hbk⟩ := keys_str k4
    have hk := B.kd
    have hn0 := S.n0
    have hn1 := S.n1 (fr, b) List.mem_cons_self
    have pgH : Tp K H z.prg z.R.d := S.pg.ex S.b
    have lb : bqs.length ≤ z.kd.length := by
      have := congrArg List.length eb
      rw [List.length_map, List.length_map] at this
      omega
    have ndb : bqs.Nodup := by
      rw [eb] at k3
      exact List.Pairwise.of_map qK (fun a b h e => h (by rw [e])) k3
    have hz : ∀ q, ¬ q ∈ bqs → F.f q = (0, []) := fun q nm => by
      refine k6 q ?_
      unfold valV
      have : kvs.find? (fun kv => decide (kv.1 = qK q)) = none := by
        rw [List.find?_eq_none]
        intro p hp e
        have mk : qK q ∈ kvs.map (·.1) := List.mem_map.mpr ⟨p, hp, of_decide_eq_true e⟩
        rw [eb] at mk
        obtain ⟨r', h1, h2⟩ := List.mem_map.mp mk
        exact nm (by rw [← qK_inj h2]; exact h1)
      rw [this]; rfl
    have okF := B.okp F (by rw [ef]; exact List.mem_cons_self)
    obtain ⟨pr, epd⟩ := PO.nm _ okF
    have ll : m.left.length ≤ 100000 := by have := B.left; have := B.st; omega
    have eF : frV ((fr, b) :: as) = frV as ++ [.ref fr] := by unfold frV; rw [List.map_cons, List.reverse_cons]
    have hfl := S.fl
    rw [eF] at hfl
    have el1 : (frV as ++ [V.ref fr])[(frV as ++ [V.ref fr]).length - 1]? = some (V.ref fr) := by simp
    obtain ⟨pa, pxs, rfl, hA⟩ : ∃ pa pxs, pl = .ref pa ∧ SqT K H pa (.str (z.R.pn F.pd) :: pxs) := by
      rw [epd] at tpl
      cases tpl with
      | tup hs ha =>
        cases ha with
        | cons h0 hr0 => cases h0; exact ⟨_, _, rfl, hs⟩
    refine ⟨.ref z.nw, rfl, z.nw, CR, dx, fs1, .ref z.fl, rfl, h1, T.cl, T.n7, h2.fl, .inl ⟨rfl, _, .of hfl⟩, z.fl, _, .ref fr, rfl, rfl, hfl, el1, ?_⟩
    have x1 : Ex [z.fl] H (upd H z.fl (.lst (frV as ++ [V.ref fr]).dropLast)) := .put hfl nt_lst (by simp)
    have hfl1 : (upd H z.fl (.lst (frV as ++ [V.ref fr]).dropLast)) z.fl = some (.lst (frV as)) := by rw [upd_same, List.dropLast_concat]
    generalize upd H z.fl (.lst (frV as ++ [V.ref fr]).dropLast) = H1 at x1 hfl1 ⊢
    have hR1 := S.R.ex x1 (by simpa using U.nfl)
    have hF1 := hF.ex x1 (by simpa using U.ffl)
    obtain ⟨dx1, fs2, h11, h12⟩ := id hR1
    obtain ⟨dF1, fF1, g11, g12⟩ := id hF1
    refine ⟨.ref z.nw, rfl, z.nw, CR, dx1, fs2, z.prg, rfl, h11, T.cl, T.n0, h12.prg, .ref fr, rfl, fr, CF, dF1, fF1, .ref pa, rfl, g11, TFr.cl, TFr.nP, g12.2.1, pa, _, 0, _, rfl, rfl, x1.seqT hA, at0, z.prg, z.R, F.pd, rfl, hG, pgH.ex x1, okF, fun H2 t ta tb x2 ht hta htb => ?_⟩
    refine ⟨t, _, 1, .ref tb, rfl, rfl, ht, at1, ?_⟩
    generalize hrs : (z.R.hd (z.R.pn F.pd)).2 = rs at htb
    have hR2 := hR1.ex x2 (by simp)
    have hF2 := hF1.ex x2 (by simp)
    obtain ⟨dx2, fs3, h21, h22⟩ := id hR2
    obtain ⟨dF2, fF2, g21, g22⟩ := id hF2
    have x12 : Ex [z.fl] H H2 := x1.trans (x2.mono (by simp))
    have k12 : H2 b = some (.dK kvs) := x12.a b _ (by simpa using U.bfl) k1 (fun _ z => by cases z)
    refine ⟨.ref z.nw, rfl, z.nw, dx2, fs3, rfl, h21, h22.m4, .ref fr, rfl, .ref fr, rfl, fr, CF, dF2, fF2, .ref b, rfl, g21, TFr.cl, TFr.nB, g22.1, b, kvs, rfl, k12, fun L nL => ?_⟩
    rw [ev']
    have xL : Ex [] H2 (upd H2 L (.lst (bqs.map V.str))) := .new nL
    have hL3 : (upd H2 L (.lst (bqs.map V.str))) L = some (.lst (bqs.map V.str)) := upd_same
    generalize upd H2 L (.lst (bqs.map V.str)) = H3 at xL hL3
    refine ⟨L, rfl, ⟨_, .of hL3⟩, fun D nD => ?_⟩
    have LD : L ≠ D := fun z => by rw [← z, hL3] at nD; cases nD
    have nD2 : H2 D = none := xL.f _ nD
    refine lc_list (a := L) (xs := bqs.map V.str) (fun i H4 => H4 D = some (.lst (((bqs.take i).filter fun q => decide (¬ q ∈ rs)).map V.str)) ∧ H4 L = some (.lst (bqs.map V.str)) ∧ Ex [D] H3 H4) ?_ ?_ ?_ ?_
    · exact ⟨upd_same, by rw [upd_ne LD]; exact hL3, .new nD⟩
    · rintro i H4 _ ⟨_, h, _⟩
      exact .of h
    · rintro i x H4 hx ⟨hD4, hL4, x4⟩
      rw [List.getElem?_map] at hx
      cases hbi : bqs[i]? with
      | none => rw [hbi] at hx; cases hx
      | some bq =>
        rw [hbi] at hx
        cases hx
        have hi : i < bqs.length := (List.getElem?_eq_some_iff.mp hbi).1
        refine ⟨rfl, .str bq, rfl, .ref tb, rfl, tb, _, rfl, .inr (x4.seqT (xL.seqT htb)), rfl, strs_flat _, _, rfl, ?_⟩
        show if (!inV (V.str bq) (rs.map V.str)) = true then _ else _
        rw [inV_strs]
        by_cases mq : bq ∈ rs
        · rw [decide_eq_true mq, if_neg (by decide)]
          refine ⟨?_, hL4, x4⟩
          rw [List.take_add_one, hbi]
          show H4 D = some (HO.lst (((bqs.take i ++ [bq]).filter fun q => decide (¬ q ∈ rs)).map V.str))
          rw [List.filter_append, List.filter_cons_of_neg (by simp [mq]), List.filter_nil, List.append_nil]; exact hD4
        · rw [decide_eq_false mq, if_pos (by decide)]
          have lf : ((bqs.take i).filter fun q => decide (¬ q ∈ rs)).length ≤ i := Nat.le_trans (List.length_filter_le _ _) (by rw [List.length_take]; exact Nat.min_le_left _ _)
          refine ⟨.str bq, rfl, _, hD4, ?_, ?_, ?_, ?_⟩
          · rw [List.length_map, sizeLine_eq]; omega
          · rw [upd_same, List.take_add_one, hbi]
            show some (HO.lst (((bqs.take i).filter fun q => decide (¬ q ∈ rs)).map V.str ++ [.str bq])) = some (.lst (((bqs.take i ++ [bq]).filter fun q => decide (¬ q ∈ rs)).map V.str))
            rw [List.filter_append, List.filter_cons_of_pos (by simp [mq]), List.filter_nil, List.map_append]; rfl
          · rw [upd_ne LD]; exact hL4
          · exact x4.trans (.put hD4 nt_lst (by simp))
    · rintro H4 ⟨hD4, hL4, x4⟩
      rw [List.length_map, List.take_length] at hD4
      have x24 : Ex [] H2 H4 := Ex.own nD2 xL x4
      have x04 : Ex [z.fl] H H4 := x12.trans (x24.mono (by simp))
      have hR4 := hR2.ex x24 (by simp)
      have hF4 := hF2.ex x24 (by simp)
      obtain ⟨dx4, fs4, h41, h42⟩ := id hR4
      have lfil : (bqs.filter fun q => decide (¬ q ∈ rs)).length ≤ bqs.length := List.length_filter_le _ _
      refine ⟨z.nw, fr, b, z.lf, D, .ref pa, _, z.kd, z.Ws, _, F.pd, F.f, ls, m.left, rfl, ⟨dx4, fs4, h41, h42.lf⟩, x04.lst hlf (by simpa using S.d4), tls.ex x04, ll, .inr (.of hD4), by omega, hF4, tpl.ex x04, hD.ex x04 (by simpa using U.bfl), fun H5 ls5 x5 hl5 tl5 => ?_⟩
      rw [leftB_res ndb hz] at tl5
      have hR5 := hR4.ex x5 (by simpa using U.nlf)
      obtain ⟨dx5, fs5, h51, h52⟩ := id hR5
      have hfl5 : H5 z.fl = some (.lst (frV as)) := x5.lst (x24.lst (x2.lst hfl1)) (by simpa using S.d4.symm)
      have x05 : Ex [z.fl, z.lf] H H5 := (x04.mono (by simp)).trans (x5.mono (by simp))
      have b05 : Ex [] z.H0 H5 := Ex.owns (by simp [hn0.2.2.1, hn0.2.2.2]) S.b x05
      have htl5 : H5 z.tl = some (.lst (m.told.map V.int)) := x05.lst S.tl (by simp [S.d3, S.d2])
      have htb5 : SqT K H5 tb (rs.map V.str) := x5.seqT (x24.seqT htb)
      refine ⟨.ref z.nw, rfl, z.nw, CR, dx5, fs5, .ref z.fl, rfl, h51, T.cl, T.n7, h52.fl, z.fl, _, rfl, .inl (.of hfl5), rfl, _, rfl, ?_⟩
      cases hT with
      | nil =>
        refine itD rfl ?_
        refine ⟨l1, fun e ne => ⟨.ref z.nw, rfl, z.nw, CR, dx5, fs5, rfl, ?_, T.cl, T.n6, by have := h52.ln; omega, ?_⟩⟩
        · exact (Ex.new ne (xs := [])).a z.nw _ (by simp) h51 (fun _ z => by cases z)
        have xe : Ex [] H5 (upd H5 e (.tup [.str (Str.ofString "ended")])) := .new ne
        have h5e : (upd H5 e (.tup [.str (Str.ofString "ended")])) z.nw = some (.ins CR dx5 fs5) := xe.a z.nw _ (by simp) h51 (fun _ z => by cases z)
        have x6 : Ex [z.nw] (upd H5 e (.tup [.str (Str.ofString "ended")])) (upd (upd H5 e (.tup [.str (Str.ofString "ended")])) z.nw (.ins CR dx5 (putF "ending" (.ref e) fs5))) := .put h5e (fun _ z => by cases z) (by simp)
        have x56 := (xe.mono (ys := [z.nw]) (by simp)).trans x6
        have em : backM z.R m = { m with fs := [], left := m.left ++ endL F.pd F.f rs, en := some [.str (Str.ofString "ended")] } := by
          unfold backM; rw [ef, ← hrs]
        refine q _ ⟨[], .ref e, ?_⟩
        rw [em]
        exact ⟨⟨dx5, _, upd_same, h52.en1 (.ref e) (by rw [putF_len (by rw [h52.en]; simp)]; exact h52.ln)⟩, ⟨e, _, rfl, .of (x6.tup upd_same), .cons (.str _) .nil⟩, x56.lst hfl5 (by simpa using U.nfl.symm), .nil, x56.lst htl5 (by simpa using U.ntl.symm), ⟨ls5, x56.lst hl5 (by simpa using U.nlf.symm), tl5.ex x56⟩, Ex.owns (by simp [hn0.1]) b05 x56, S.n0, (fun c mc => nomatch mc), (by simp), (by simp), S.pg, S.an, S.d2, S.d3, S.d4⟩
      | cons hX2 hT2 =>
        rename_i a2 g as2 gs
        obtain ⟨fr2, b2⟩ := a2
        have hX25 : FX K CF z H5 (fr2, b2) g := hX2.ex x05 (by have := U.on (fr2, b2) List.mem_cons_self; simp [this.2.2.1, this.2.2.2.1]) (by have := U.on (fr2, b2) List.mem_cons_self; simp [this.2.2.2.2.2.2.1, this.2.2.2.2.2.2.2])
        have hT25 : Stk K CF z H5 as2 gs := hT2.ex x05 (fun c mc => by have := U.on c (List.mem_cons_of_mem _ mc); simp [this.2.2.1, this.2.2.2.1]) (fun c mc => by have := U.on c (List.mem_cons_of_mem _ mc); simp [this.2.2.2.2.2.2.1, this.2.2.2.2.2.2.2])
        obtain ⟨pl2, hFa, tpla, hDa⟩ := hX25
        obtain ⟨gx, gca, gcg, hgw⟩ := hcal g List.mem_cons_self
        have okg := B.okp g (by rw [ef]; exact List.mem_cons_of_mem _ List.mem_cons_self)
        obtain ⟨_, _, kcg, _⟩ := PO.call _ _ _ _ okg hgw
        have eF2 : frV ((fr2, b2) :: as2) = frV as2 ++ [.ref fr2] := by unfold frV; rw [List.map_cons, List.reverse_cons]
        rw [eF2] at hfl5
        have pg5 : Tp K H5 z.prg z.R.d := S.pg.ex b05
        refine itN (by intro zz; have := V.int.inj zz; simp [frV] at this; omega) ?_
        refine ⟨.ref z.nw, rfl, z.nw, CR, dx5, fs5, .ref z.fl, rfl, h51, T.cl, T.n7, h52.fl, 1, rfl, z.fl, _, -1, .ref fr2, rfl, rfl, .of hfl5, atI_last _ _, ?_⟩
        refine ⟨.ref z.nw, rfl, z.nw, dx5, fs5, rfl, h51, h52.m1, z.nw, fr2, b2, _, pl2, _, z.R, g.pd, rfl, hR5, hfl5, hFa, hG, pg5, okg, tpla, fun u hu => ?_⟩
        rw [hgw] at hu
        obtain ⟨wa, r0, rfl, hs, hr0⟩ := word_in hu
        obtain ⟨r1, rfl, hr1⟩ := one_s hr0
        cases hr1 with
        | cons hca hr2 =>
        cases hr2 with
        | cons hcg hr3 =>
        cases hr3
        cases hcg with
        | tup hsg hag =>
        rename_i cgA cgX
        obtain rfl := strs_inv hag
        refine ⟨wa, _, 3, .ref cgA, rfl, rfl, hs, at3, ?_⟩
        have hFi5 : FrH CF H5 fr b (.ref pa) := hF4.ex x5 (by simpa using U.flf)
        have hDi5 : Hd K H5 b z.kd z.Ws z.kd.length F.f := hD.ex x05 (by simp [U.bfl, U.blf])
        have uo := U.o (fr2, b2) List.mem_cons_self
        have un := U.on (fr2, b2) List.mem_cons_self
        have fb2 : fr2 ≠ b2 := by
          obtain ⟨d9, f9, q9, _⟩ := id hFa
          obtain ⟨kv9, r9, _⟩ := id hDa
          exact ne_of q9 r9 (by intro z; cases z)
        refine ⟨.ref cgA, rfl, .ref tb, rfl, cgA, tb, gcg.map V.str, rs.map V.str, rfl, .inr ⟨hsg, htb5, ?_⟩⟩
        refine for_it (walk_zipT (xs := gcg.map V.str) (ys := rs.map V.str) rfl) (fun i σ H6 => ∃ y5 y6 y7, σ = [some (.ref z.nw), some (.ref fr), some (.ref tb), some (.ref fr2), some (.ref cgA), y5, y6, y7] ∧ Ex [b2] H5 H6 ∧ Hd K H6 b2 z.kd z.Ws z.kd.length (getF F.f g.f ((gcg.zip rs).take i))) ?_ ?_ ?_ ?_
        · exact ⟨_, _, _, rfl, .refl, hDa⟩
        · rintro i σ H6 _ ⟨y5, y6, y7, _, x6, _⟩
          exact ⟨x6.seqT hsg, x6.seqT htb5⟩
        · rintro i v σ H6 H7 hi ⟨y5, y6, y7, rfl, x6, hD6⟩ ⟨T9, v9, u9, rfl, n9, rfl, hx9, hy9⟩
          have hx9 : (gcg.map V.str)[i]? = some v9 := hx9
          have hy9 : (rs.map V.str)[i]? = some u9 := hy9
          rw [List.getElem?_map] at hx9 hy9
          cases hka : gcg[i]? with
          | none => rw [hka] at hx9; cases hx9
          | some ar =>
          cases hkp : rs[i]? with
          | none => rw [hkp] at hy9; cases hy9
          | some pr =>
          rw [hka] at hx9
          rw [hkp] at hy9
          cases hx9
          cases hy9
          have x9 : Ex [] H6 (upd H6 T9 (.tup [.str ar, .str pr])) := .new n9
          have ez : (gcg.zip rs)[i]? = some (ar, pr) := by rw [List.getElem?_zip_eq_some]; exact ⟨hka, hkp⟩
          have mar : ar ∈ z.kd := kcg ar (List.mem_of_getElem? hka)
          refine ⟨T9, [.str ar, .str pr], rfl, .of upd_same, rfl, _, _, rfl, _, _, rfl, rfl, ?_⟩
          have x59 : Ex [b2] H5 (upd H6 T9 (.tup [.str ar, .str pr])) := x6.trans (x9.mono (by simp))
          have hD9 := hD6.ex x9 (by simp)
          generalize upd H6 T9 (.tup [.str ar, .str pr]) = H9 at x59 hD9 ⊢
          have hFi9 := hFi5.ex x59 (by simpa using uo.2.2.2.symm)
          have hDi9 := hDi5.ex x59 (by simpa using uo.2.1.symm)
          have hFa9 := hFa.ex x59 (by simpa using fb2)
          obtain ⟨dI9, fI9, q1, q2, q3, q4, _⟩ := id hFi9
          obtain ⟨dA9, fA9, j1, j2, _⟩ := id hFa9
          refine ⟨.ref fr, rfl, fr, dI9, fI9, rfl, q1, q4, .str pr, rfl, fr, b, .ref pa, .str pr, pr, z.kd, z.Ws, _, _, rfl, hFi9, hDi9, rfl, fun u hu => ?_⟩
          obtain ⟨kvs, e1, e2, e3, e4⟩ := hD9.set hk mar hu (hDi9.ws pr)
          refine ⟨.ref fr2, rfl, fr2, CF, dA9, fA9, .ref b2, rfl, j1, TFr.cl, TFr.nB, j2, .str ar, rfl, b2, _, rfl, .inl ⟨kvs, qK ar, e1, rfl, e2, rfl⟩, ?_⟩
          refine ⟨_, _, _, rfl, x59.trans e3, ?_⟩
          rw [List.take_add_one, ez]
          unfold getF
          rw [List.foldl_append]
          exact e4
        · rintro σ H6 ⟨y5, y6, y7, rfl, x6, hD6⟩
          have e6 : min (gcg.map V.str).length (rs.map V.str).length = (gcg.zip rs).length := by rw [List.length_map, List.length_map, List.length_zip]
          rw [e6, List.take_length] at hD6
          have hR6 := hR5.ex x6 (by simpa using un.2.2.2.2.1.symm)
          have hFa6 := hFa.ex x6 (by simpa using fb2)
          obtain ⟨dx6, fs6, h61, h62⟩ := id hR6
          obtain ⟨dA6, fA6, j1, j2, j3, _⟩ := id hFa6
          refine ⟨.ref z.nw, rfl, z.nw, CR, dx6, fs6, z.prg, rfl, h61, T.cl, T.n0, h62.prg, .ref fr2, rfl, fr2, CF, dA6, fA6, pl2, rfl, j1, TFr.cl, TFr.nP, j3, z.prg, pl2, z.R, g.pd, _, rfl, hG, pg5.ex x6, okg, tpla.ex x6, hgw, fun H7 u x7 tu => ?_⟩
          have hFa7 := hFa6.ex x7 (by simp)
          obtain ⟨dA7, fA7, i1, i2⟩ := id hFa7
          refine ⟨.ref fr2, rfl, fr2, CF, dA7, fA7, rfl, i1, TFr.cl, TFr.nP, by have := i2.2.2.2.2; omega, ?_⟩
          have x8 : Ex [fr2] H7 (upd H7 fr2 (.ins CF dA7 (putF "place" u fA7))) := .put i1 (fun _ z => by cases z) (by simp)
          have x58 : Ex [b2, fr2] H5 (upd H7 fr2 (.ins CF dA7 (putF "place" u fA7))) := ((x6.trans (x7.mono (by simp))).mono (by simp)).trans (x8.mono (by simp))
          have x68 : Ex [fr2] H6 (upd H7 fr2 (.ins CF dA7 (putF "place" u fA7))) := (x7.mono (by simp)).trans x8
          have hm2 := S.n1 (fr2, b2) (List.mem_cons_of_mem _ List.mem_cons_self)
          have u1 := S.u1
          have u2 := S.u2
          rw [List.map_cons, List.nodup_cons] at u1 u2
          have u12 := u1.2
          have u22 := u2.2
          rw [List.map_cons, List.nodup_cons] at u12 u22
          have em : backM z.R m = { m with fs := ⟨z.R.bh g.pd, getF F.f g.f (gcg.zip rs)⟩ :: gs, left := m.left ++ endL F.pd F.f rs } := by
            unfold backM; rw [ef, ← hrs]; simp only [hgw, getsOf]
          refine q _ ⟨(fr2, b2) :: as2, ev, ?_⟩
          rw [em]
          have at5 := hT25.at
          refine ⟨hR6.ex x68 (by simpa using hm2.2.2), ?_, x58.lst (by rw [eF2]; exact hfl5) (by simp [un.2.2.2.2.2.2.2.symm, un.2.2.2.1.symm]), .cons ⟨u, FrH.place i2, tu.ex x8, hD6.ex x68 (by simpa using fb2.symm)⟩ (hT25.ex x58 (fun c mc => ?_) fun c mc => ?_),
            x58.lst htl5 (by simp [un.2.2.2.2.2.1.symm, un.2.1.symm]), ⟨ls5, x58.lst hl5 (by simp [un.2.2.2.2.2.2.1.symm, un.2.2.1.symm]), tl5.ex x58⟩, Ex.owns (by simp [hm2.1, hm2.2.1]) b05 x58, S.n0, fun c mc => S.n1 c (List.mem_cons_of_mem _ mc), u1.2, u2.2, S.pg, S.an, S.d2, S.d3, S.d4⟩
          · have := S.en
            rw [en0] at this
            show enV K _ m.en ev
            rw [en0]; exact this
          · have c1 : c.1 ≠ fr2 := fun e => u12.1 (by show fr2 ∈ _; rw [← e]; exact List.mem_map.mpr ⟨c, mc, rfl⟩)
            obtain ⟨⟨dc, fc, hc1⟩, _⟩ := at5 c mc
            obtain ⟨kv9, r9, _⟩ := id hDa
            have c2 : c.1 ≠ b2 := ne_of hc1 r9 (by intro z; cases z)
            simp [c1, c2]
          · have c1 : c.2 ≠ b2 := fun e => u22.1 (by show b2 ∈ _; rw [← e]; exact List.mem_map.mpr ⟨c, mc, rfl⟩)
            obtain ⟨_, ⟨kvc, hc2⟩⟩ := at5 c mc
            obtain ⟨d9, f9, q9, _⟩ := id hFa
            have c2 : c.2 ≠ fr2 := ne_of hc2 q9 (by intro z; cases z)
            simp [c1, c2]
end
end K13

set_option maxHeartbeats 4000000
namespace K13
open PySem PySem.Spec PyProof.Rows L2 Kk RZ
abbrev s_fault : Stmt := topS 34
abbrev s_ends : Stmt := topS 35
theorem sc_fault : FnScope ["now", "fault", "frame"] ["now", "fault"] (defScope s_fault) := ⟨rfl, rfl, rfl, by decide +kernel, rfl, by decide +kernel, by decide +kernel⟩
theorem sc_ends : FnScope ["now"] ["now"] (defScope s_ends) := ⟨rfl, rfl, rfl, by decide +kernel, rfl, by decide +kernel, by decide +kernel⟩
noncomputable def endF (F : Fr) : List PyData := endL F.pd F.f []
noncomputable def faultM (y : Str) (m : Sm) : Sm := { m with fs := [], left := m.left ++ m.fs.flatMap endF, en := some [.str (Str.ofString "fault"), .str y] }
noncomputable def fallM (j : Nat) (m : Sm) : Sm := { m with fs := m.fs.drop j, left := m.left ++ (m.fs.take j).flatMap endF }
theorem StA.el {K : PySem.W.Frag} {CF CR : Addr} {z : Sh} {H : Hp} {m : Sm} {as : List (Addr × Addr)} {ev : V} (S : StA K CF CR z H m as ev) : ∀ F ∈ m.fs, ∀ rs, (endL F.pd F.f rs).length ≤ z.kd.length := by
  have := S.S
  generalize m.fs = fs at this
  clear S
  induction this with
  | nil => intro F mF; cases mF
  | cons h t ih =>
    intro F mF rs
    rcases List.mem_cons.mp mF with e | e
    · rw [e]
      obtain ⟨pl, _, _, hD⟩ := h
      exact endL_len hD
    · exact ih F e rs
section
variable {P : Program} {w : World} {K : PySem.W.Frag} {mg : Str → Option Value} {base : Heap}
def spFault (K : PySem.W.Frag) (CF CR : Addr) : Sp := fun vs H Q _ => ∃ (z : Sh) (m : Sm) (y : Str), vs = [.ref z.nw, .str y] ∧ StH K CF CR z H m ∧ Bd z m ∧ ∀ H', StH K CF CR z H' (faultM y m) → Q .non H'
theorem ok_fault {f CF CR fL : Addr} {fd fdL : FuncData} {k : Nat} (F : Fun K "do_fault" "do_fault" s_fault f fd) (T : TR K mg CR) (TFr : TF K mg CF)
    (GL : FnOk P w K mg base CX0 k fL fdL ["self", "frame", "boxes"] (spLeave K CF CR)) (mL : Meth K CR "leave" fL) (bL : Binds K fdL ["self", "frame", "boxes"] []) (m_list : mg "list" = none) (m_len : mg "len" = none) :
    FnOk P w K mg base CX0 (k + 1) f fd ["now", "fault"] (spFault K CF CR) := by
  refine F.ok sc_fault (fun vs H Q E h => ?_) (fun cdv A outer s H vs Q E hr h => ?_)
  · obtain ⟨z, m, y, rfl, _⟩ := h; rfl
  · obtain ⟨z, m, y, rfl, hS, B, q⟩ := h
    refine ⟨_, (pss_cons (ps_while PassesOwn.never (pt_cmpR op_gt (pe_callB call_len_seq (by rfl) m_len PySem.boot_len (pa_cons (pe_fld (pv 0) rfl) pa_nil)) pe_int (nomark _))
        (pss_cons (ps_set (i := 2) sc_fault.nd rfl (.inl rfl) (pe_bm0 PySem.F.plainAttrs_list PySem.F.slot_list_pop PySem.F.type_list_pop mt_pop (pe_fld (pv 0) rfl)))
        (pss_one (ps_expr (pe_meth (pv 0) T.cl mL GL hr bL .nil pass0 (pa_cons (pv 2) (pa_cons (pe_callTy (call_list_dK rfl) (by rfl) m_list (by decide +kernel) (pa_cons (pe_fld (pv 2) rfl) pa_nil)) pa_nil)))))))
      (pss_one (ps_fld (pv 0) (pe_tup (pa_cons pe_str (pa_cons (pv 1) pa_nil))) rfl))), ?_⟩
    have fit : ∀ j, (fallM j m).left.length + 64 * (fallM j m).fs.length ≤ 64 * (m.st + 1) := by
      intro j
      obtain ⟨as, ev, S⟩ := hS
      have el := S.el
      have : ∀ l : List Fr, (∀ F ∈ l, ∀ rs, (endL F.pd F.f rs).length ≤ z.kd.length) → (l.flatMap endF).length ≤ 64 * l.length := by
        intro l
        induction l with
        | nil => intro _; exact Nat.le_refl _
        | cons x l ih =>
          intro hl
          rw [List.flatMap_cons, List.length_append, List.length_cons]
          have h1 : (endF x).length ≤ z.kd.length := hl x List.mem_cons_self []
          have h2 := ih fun F mF => hl F (List.mem_cons_of_mem _ mF)
          have := B.kd
          omega
      have h1 := this (m.fs.take j) fun F mF => el F (List.mem_of_mem_take mF)
      show (m.left ++ (m.fs.take j).flatMap endF).length + 64 * (m.fs.drop j).length ≤ _
      rw [List.length_append, List.length_drop]
      rw [List.length_take] at h1
      have := B.left
      omega
    refine ⟨fun M σ H2 => ∃ y2 j, σ = [some (.ref z.nw), some (.str y), y2] ∧ j ≤ m.fs.length ∧ M = m.fs.length - j ∧ StH K CF CR z H2 (fallM j m), ⟨m.fs.length, none, 0, rfl, Nat.zero_le _, rfl, ?_⟩, ?_⟩
    · have : fallM 0 m = m := by unfold fallM; rw [List.drop_zero, List.take_zero, List.flatMap_nil, List.append_nil]
      rw [this]; exact hS
    rintro M σ H2 ⟨y2, j, rfl, hj, rfl, as, ev, S⟩
    obtain ⟨dx, fs1, h1, h2⟩ := id S.R
    have elen := S.S.len
    refine ⟨.ref z.nw, rfl, z.nw, CR, dx, fs1, .ref z.fl, rfl, h1, T.cl, T.n7, h2.fl, z.fl, _, rfl, .inl (.of S.fl), _, 0, rfl, rfl, _, rfl, ?_⟩
    rcases Nat.lt_or_ge j m.fs.length with lj | lj
    · refine itD (by rw [List.length_reverse, List.length_map, elen]; show (0 : Int) < ((m.fs.drop j).length : Int); rw [List.length_drop]; omega) ?_
      refine ⟨fun σ' H' => ∃ m', m' < m.fs.length - j ∧ ∃ y2 j, σ' = [some (.ref z.nw), some (.str y), y2] ∧ j ≤ m.fs.length ∧ m' = m.fs.length - j ∧ StH K CF CR z H' (fallM j m), fun _ _ z => z, ?_⟩
      have hSt := S.S
      have ed : (fallM j m).fs = m.fs[j] :: m.fs.drop (j + 1) := List.drop_eq_getElem_cons lj
      rw [ed] at hSt
      cases hSt with
      | cons hX hT =>
      rename_i a as
      have U := S.un
      obtain ⟨fr, b⟩ := a
      obtain ⟨pl, hF, tpl, hD⟩ := hX
      obtain ⟨ls, hlf, tls⟩ := S.lf
      obtain ⟨dF, fF, g1, g2, g3, g4, g5, g6⟩ := id hF
      obtain ⟨kvs, k1, k2, k3, k4, k5, k6, k7⟩ := id hD
      obtain ⟨bqs, eb, ev', hbk⟩ := keys_str k4
      have hk := B.kd
      have hn0 := S.n0
      have lb : bqs.length ≤ z.kd.length := by
        have := congrArg List.length eb
        rw [List.length_map, List.length_map] at this
        omega
      have ndb : bqs.Nodup := by
        rw [eb] at k3
        exact List.Pairwise.of_map qK (fun a b h e => h (by rw [e])) k3
      have hz : ∀ q, ¬ q ∈ bqs → (m.fs[j]).f q = (0, []) := fun q nm => by
        refine k6 q ?_
        unfold valV
        have : kvs.find? (fun kv => decide (kv.1 = qK q)) = none := by
          rw [List.find?_eq_none]
          intro p hp e
          have mk : qK q ∈ kvs.map (·.1) := List.mem_map.mpr ⟨p, hp, of_decide_eq_true e⟩
          rw [eb] at mk
          obtain ⟨r', h1, h2⟩ := List.mem_map.mp mk
          exact nm (by rw [← qK_inj h2]; exact h1)
        rw [this]; rfl
      have eF : frV ((fr, b) :: as) = frV as ++ [.ref fr] := by unfold frV; rw [List.map_cons, List.reverse_cons]
      have hfl := S.fl
      rw [eF] at hfl
      have el1 : (frV as ++ [V.ref fr])[(frV as ++ [V.ref fr]).length - 1]? = some (V.ref fr) := by simp
      refine ⟨.ref z.nw, rfl, z.nw, CR, dx, fs1, .ref z.fl, rfl, h1, T.cl, T.n7, h2.fl, .inl ⟨rfl, _, .of hfl⟩, z.fl, _, .ref fr, rfl, rfl, hfl, el1, ?_⟩
      have x1 : Ex [z.fl] H2 (upd H2 z.fl (.lst (frV as ++ [V.ref fr]).dropLast)) := .put hfl nt_lst (by simp)
      have hfl1 : (upd H2 z.fl (.lst (frV as ++ [V.ref fr]).dropLast)) z.fl = some (.lst (frV as)) := by rw [upd_same, List.dropLast_concat]
      generalize upd H2 z.fl (.lst (frV as ++ [V.ref fr]).dropLast) = H3 at x1 hfl1 ⊢
      have hR1 := S.R.ex x1 (by simpa using U.nfl)
      have hF1 := hF.ex x1 (by simpa using U.ffl)
      obtain ⟨dx1, fs2, h11, h12⟩ := id hR1
      obtain ⟨dF1, fF1, g11, g12⟩ := id hF1
      have k12 : H3 b = some (.dK kvs) := x1.a b _ (by simpa using U.bfl) k1 (fun _ z => by cases z)
      refine ⟨.ref z.nw, rfl, z.nw, dx1, fs2, rfl, h11, h12.m4, .ref fr, rfl, .ref fr, rfl, fr, CF, dF1, fF1, .ref b, rfl, g11, TFr.cl, TFr.nB, g12.1, b, kvs, rfl, k12, fun L nL => ?_⟩
      rw [ev']
      have xL : Ex [] H3 (upd H3 L (.lst (bqs.map V.str))) := .new nL
      have hL3 : (upd H3 L (.lst (bqs.map V.str))) L = some (.lst (bqs.map V.str)) := upd_same
      generalize upd H3 L (.lst (bqs.map V.str)) = H4 at xL hL3
      have x04 : Ex [z.fl] H2 H4 := x1.trans (xL.mono (by simp))
      have hR4 := hR1.ex xL (by simp)
      have hF4 := hF1.ex xL (by simp)
      obtain ⟨dx4, fs4, h41, h42⟩ := id hR4
      have ll : (fallM j m).left.length ≤ 100000 := by have := fit j; have := B.st; omega
      refine ⟨z.nw, fr, b, z.lf, L, pl, bqs, z.kd, z.Ws, _, m.fs[j].pd, m.fs[j].f, ls, (fallM j m).left, rfl, ⟨dx4, fs4, h41, h42.lf⟩, x04.lst hlf (by simpa using S.d4), tls.ex x04, ll, .inr (.of hL3), by omega, hF4, tpl.ex x04, hD.ex x04 (by simpa using U.bfl), fun H5 ls5 x5 hl5 tl5 => ?_⟩
      have eall : leftB m.fs[j].pd m.fs[j].f bqs = endF m.fs[j] := by
        have := leftB_res (pd := m.fs[j].pd) (rs := []) ndb hz
        rw [show bqs.filter (fun q => decide (¬ q ∈ ([] : List Str))) = bqs by simp] at this
        exact this
      rw [eall] at tl5
      have x05 : Ex [z.fl, z.lf] H2 H5 := (x04.mono (by simp)).trans (x5.mono (by simp))
      refine ⟨m.fs.length - (j + 1), by omega, _, j + 1, rfl, lj, rfl, as, ev, ?_⟩
      have em : fallM (j + 1) m = { fallM j m with fs := m.fs.drop (j + 1), left := (fallM j m).left ++ endF m.fs[j] } := by
        unfold fallM
        rw [List.take_add_one, List.getElem?_eq_getElem lj]
        show _ = _
        rw [List.flatMap_append]
        simp
      rw [em]
      have u1 := S.u1
      have u2 := S.u2
      rw [List.map_cons, List.nodup_cons] at u1 u2
      exact ⟨hR4.ex x5 (by simpa using U.nlf), S.en.ex x05, x5.lst (xL.lst hfl1) (by simpa using S.d4.symm), hT.ex x05 (fun c mc => by have := U.on c mc; simp [this.2.2.1, this.2.2.2.1]) (fun c mc => by have := U.on c mc; simp [this.2.2.2.2.2.2.1, this.2.2.2.2.2.2.2]),
        x05.lst S.tl (by simp [S.d3, S.d2]), ⟨ls5, hl5, tl5⟩, Ex.owns (by simp [hn0.2.2.1, hn0.2.2.2]) S.b x05, S.n0, fun c mc => S.n1 c (List.mem_cons_of_mem _ mc), u1.2, u2.2, S.pg, S.an, S.d2, S.d3, S.d4⟩
    · have ej : j = m.fs.length := by omega
      have e0 : (fallM j m).fs = [] := by show m.fs.drop j = []; rw [ej, List.drop_length]
      have as0 : as = [] := by
        rw [e0] at elen
        exact List.length_eq_zero_iff.mp elen
      subst as0
      refine itN (by decide) ?_
      have ntl : z.nw ≠ z.tl := ne_of h1 S.tl (by intro z; cases z)
      obtain ⟨ls, hlf, tls⟩ := S.lf
      have nlf : z.nw ≠ z.lf := ne_of h1 hlf (by intro z; cases z)
      have nfl : z.nw ≠ z.fl := ne_of h1 S.fl (by intro z; cases z)
      refine ⟨.str y, rfl, l2, fun e ne => ⟨.ref z.nw, rfl, z.nw, CR, dx, fs1, rfl, ?_, T.cl, T.n6, by have := h2.ln; omega, ?_⟩⟩
      · exact (Ex.new ne (xs := [])).a z.nw _ (by simp) h1 (fun _ z => by cases z)
      have xe : Ex [] H2 (upd H2 e (.tup [.str (Str.ofString "fault"), .str y])) := .new ne
      have h5e : (upd H2 e (.tup [.str (Str.ofString "fault"), .str y])) z.nw = some (.ins CR dx fs1) := xe.a z.nw _ (by simp) h1 (fun _ z => by cases z)
      have x6 : Ex [z.nw] (upd H2 e (.tup [.str (Str.ofString "fault"), .str y])) (upd (upd H2 e (.tup [.str (Str.ofString "fault"), .str y])) z.nw (.ins CR dx (putF "ending" (.ref e) fs1))) := .put h5e (fun _ z => by cases z) (by simp)
      have x56 := (xe.mono (ys := [z.nw]) (by simp)).trans x6
      have em : faultM y m = { fallM j m with fs := [], en := some [.str (Str.ofString "fault"), .str y] } := by
        unfold faultM fallM
        rw [ej, List.take_length]
      refine q _ ⟨[], .ref e, ?_⟩
      rw [em]
      exact ⟨⟨dx, _, upd_same, h2.en1 (.ref e) (by rw [putF_len (by rw [h2.en]; simp)]; exact h2.ln)⟩, ⟨e, _, rfl, .of (x6.tup upd_same), .cons (.str _) (.cons (.str _) .nil)⟩, x56.lst S.fl (by simpa using nfl.symm), .nil, x56.lst S.tl (by simpa using ntl.symm), ⟨ls, x56.lst hlf (by simpa using nlf.symm), tls.ex x56⟩, Ex.owns (by simp [S.n0.1]) S.b x56, S.n0, (fun c mc => nomatch mc), (by simp), (by simp), S.pg, S.an, S.d2, S.d3, S.d4⟩
end
end K13

set_option maxHeartbeats 4000000
namespace K13
open PySem PySem.Spec PyProof.Rows L2 Kk RZ
abbrev s_step : Stmt := topS 36
theorem sc_step : FnScope ["now", "word", "choices", "answer"] ["now"] (defScope s_step) := ⟨rfl, rfl, rfl, by decide +kernel, rfl, by decide +kernel, by decide +kernel⟩
/-- what holds of a run between its doings -/
structure Iv (z : Sh) (m : Sm) : Prop where
  B : Bd z m
  cal : ∀ g ∈ m.fs.tail, ∃ x ca cg, z.R.wd g.pd = some (.call x ca cg)
  one : m.en = none → m.fs ≠ []
  enl : ∀ ds, m.en = some ds → ds.length ≤ 10
/-- the frame on top stands at its end -/
def atEnd (R : Pr) (m : Sm) : Prop := m.en = none ∧ ∃ F fs, m.fs = F :: fs ∧ R.wd F.pd = none
open Classical in
noncomputable def endsN (R : Pr) : Nat → Sm → Sm
  | 0, m => m
  | n + 1, m => if atEnd R m then endsN R n (backM R m) else m
noncomputable def endsM (R : Pr) (m : Sm) : Sm := endsN R m.fs.length m
theorem endsN_no {R : Pr} {m : Sm} (h : ¬ atEnd R m) : ∀ n, endsN R n m = m
  | 0 => rfl
  | n + 1 => by unfold endsN; rw [if_neg h]
theorem endsN_yes {R : Pr} {m : Sm} (h : atEnd R m) (n : Nat) : endsN R (n + 1) m = endsN R n (backM R m) := by
  conv => lhs; unfold endsN
  rw [if_pos h]
theorem back_len {R : Pr} {m : Sm} {F : Fr} {fs : List Fr} (h : m.fs = F :: fs) : (backM R m).fs.length = fs.length := by
  unfold backM
  rw [h]
  cases fs with
  | nil => rfl
  | cons G gs => rfl
theorem back_iv {K : PySem.W.Frag} {CF CR : Addr} {z : Sh} {H : Hp} {m : Sm} {F : Fr} {fs : List Fr} (S : StH K CF CR z H m) (PO : PrOk z.R z.kd z.Ws) (I : Iv z m) (h : m.fs = F :: fs) (en : m.en = none) : Iv z (backM z.R m) := by
  obtain ⟨as, ev, S⟩ := S
  have el := S.el F (by rw [h]; exact List.mem_cons_self) (z.R.hd (z.R.pn F.pd)).2
  have hk := I.B.kd
  have hl := I.B.left
  rw [h, List.length_cons] at hl
  have cal := I.cal
  rw [h] at cal
  have okp := I.B.okp
  rw [h] at okp
  unfold backM
  rw [h]
  cases fs with
  | nil =>
    refine ⟨⟨hk, I.B.Ws, I.B.st, I.B.told, ?_, fun F mF => nomatch mF⟩, (fun g mg => nomatch mg), (fun e => nomatch e), fun ds e => by cases e; exact (by decide : 1 ≤ 10)⟩
    show (m.left ++ _).length + 64 * 0 ≤ 64 * (m.st + 1)
    rw [List.length_append]
    simp only [List.length_nil] at hl
    omega
  | cons G gs =>
    obtain ⟨x, ca, cg, e⟩ := cal G List.mem_cons_self
    refine ⟨⟨hk, I.B.Ws, I.B.st, I.B.told, ?_, fun F' mF => ?_⟩, (fun g mg => cal g (List.mem_cons_of_mem _ mg)), (fun _ e => nomatch e), I.enl⟩
    · show (m.left ++ _).length + 64 * (gs.length + 1) ≤ 64 * (m.st + 1)
      rw [List.length_append]
      rw [List.length_cons] at hl
      omega
    · rcases List.mem_cons.mp mF with e' | e'
      · rw [e']
        exact PO.bh _ _ (okp G (List.mem_cons_of_mem _ List.mem_cons_self)) e
      · exact okp F' (List.mem_cons_of_mem _ (List.mem_cons_of_mem _ e'))
section
variable {P : Program} {w : World} {K : PySem.W.Frag} {mg : Str → Option Value} {base : Heap}
def spEnds (K : PySem.W.Frag) (CF CR : Addr) (G : Pr → Prop) : Sp := fun vs H Q _ => ∃ (z : Sh) (m : Sm), vs = [.ref z.nw] ∧ StH K CF CR z H m ∧ G z.R ∧ PrOk z.R z.kd z.Ws ∧ Iv z m ∧
  ∀ H', StH K CF CR z H' (endsM z.R m) → Iv z (endsM z.R m) → ¬ atEnd z.R (endsM z.R m) → Q .non H'
theorem ok_ends {f CF CR f1 f2 : Addr} {fd d1 d2 : FuncData} {k : Nat} {G : Pr → Prop} (F : Fun K "do_ends" "do_ends" s_ends f fd) (T : TR K mg CR) (GW : FnOk P w K mg base CX0 k f1 d1 ["self"] (spWord K CF CR G)) (mW : Meth K CR "word" f1) (bW : Binds K d1 ["self"] [])
    (C_back : Cl P w K mg base k "do_back" ["now"] (spBack K CF CR G) f2 d2) : FnOk P w K mg base CX0 (k + 1) f fd ["now"] (spEnds K CF CR G) := by
  refine F.ok sc_ends (fun vs H Q E h => ?_) (fun cdv A outer s H vs Q E hr h => ?_)
  · obtain ⟨z, m, rfl, _⟩ := h; rfl
  · obtain ⟨z, m, rfl, S, hG, PO, I, q⟩ := h
    refine ⟨_, pss_one (ps_while PassesOwn.never (PW.pt (pw_and (pt_cmpR op_isN (pe_fld (pv 0) rfl) pe_non (nomark _)) (pw_and1 (pt_cmpR op_isN (pe_meth0 (pv 0) T.cl mW GW hr bW .nil pass0) pe_non (nomark _))))) (pss_one (ps_expr (pe_call C_back.g hr (by rfl) C_back.m C_back.k C_back.b .nil pass0 (pa_cons (pv 0) pa_nil))))), ?_⟩
    refine ⟨fun M σ H2 => ∃ m2, σ = [some (.ref z.nw)] ∧ StH K CF CR z H2 m2 ∧ Iv z m2 ∧ M = m2.fs.length ∧ endsN z.R M m2 = endsM z.R m, ⟨m.fs.length, m, rfl, S, I, rfl, rfl⟩, ?_⟩
    rintro M σ H2 ⟨m2, rfl, S2, I2, rfl, e2⟩
    obtain ⟨as, ev, A2⟩ := id S2
    obtain ⟨dx, fs, h1, h2⟩ := id A2.R
    cases en : m2.en with
    | some ds =>
      have he := A2.en
      rw [en] at he
      obtain ⟨ea, xs, rfl, _⟩ := he
      refine ⟨.ref z.nw, rfl, z.nw, CR, dx, fs, .ref ea, rfl, h1, T.cl, T.n6, h2.en, rfl, _, rfl, itN (by simp) ?_⟩
      have na : ¬ atEnd z.R m2 := fun a => by rw [a.1] at en; cases en
      rw [endsN_no na] at e2
      subst e2
      exact q H2 S2 I2 na
    | none =>
      have he := A2.en
      rw [en] at he
      obtain rfl : ev = .non := he
      refine ⟨.ref z.nw, rfl, z.nw, CR, dx, fs, .non, rfl, h1, T.cl, T.n6, h2.en, rfl, _, rfl, itD rfl ?_⟩
      cases hfs : m2.fs with
      | nil => exact absurd hfs (I2.one en)
      | cons F2 fs2 =>
        have hSt := A2.S
        rw [hfs] at hSt
        cases hSt with
        | cons hX hT =>
        rename_i a as
        obtain ⟨fr, b⟩ := a
        obtain ⟨pl, hF, tpl, hD⟩ := hX
        have eF : frV ((fr, b) :: as) = frV as ++ [.ref fr] := by unfold frV; rw [List.map_cons, List.reverse_cons]
        have hfl := A2.fl
        rw [eF] at hfl
        have okF := I2.B.okp F2 (by rw [hfs]; exact List.mem_cons_self)
        refine ⟨.ref z.nw, rfl, z.nw, dx, fs, rfl, h1, h2.m1, z.nw, fr, b, _, pl, _, z.R, F2.pd, rfl, A2.R, hfl, hF, hG, A2.pg.ex A2.b, okF, tpl, fun u hu => ?_⟩
        refine ⟨rfl, _, rfl, ?_⟩
        cases hw : z.R.wd F2.pd with
        | some W =>
          rw [hw] at hu
          obtain ⟨a, r0, rfl, _⟩ := word_in hu
          have na : ¬ atEnd z.R m2 := fun a => by
            obtain ⟨_, F3, fs3, e3, w3⟩ := a
            rw [hfs] at e3
            cases e3
            rw [hw] at w3; cases w3
          rw [endsN_no na] at e2
          subst e2
          exact itN (by simp) (q H2 S2 I2 na)
        | none =>
          rw [hw] at hu
          cases hu
          have ya : atEnd z.R m2 := ⟨en, F2, fs2, hfs, hw⟩
          have cal := I2.cal
          rw [hfs] at cal
          rw [List.length_cons]
          rw [hfs, List.length_cons, endsN_yes ya] at e2
          refine itD rfl ⟨fun σ' H' => ∃ m', m' < fs2.length + 1 ∧ ∃ m3, σ' = [some (.ref z.nw)] ∧ StH K CF CR z H' m3 ∧ Iv z m3 ∧ m' = m3.fs.length ∧ endsN z.R m' m3 = endsM z.R m, fun _ _ z => z, ?_⟩
          refine ⟨.ref z.nw, rfl, z, m2, F2, fs2, rfl, S2, hG, PO, I2.B, hfs, en, cal, fun H' S' => ?_⟩
          exact ⟨fs2.length, by omega, backM z.R m2, rfl, S', back_iv S2 PO I2 hfs en, (back_len hfs).symm, e2⟩
end
end K13

set_option maxHeartbeats 4000000
namespace K13
open PySem PySem.Spec PyProof.Rows L2 Kk RZ
theorem step_k (W : Wo) : (∃ y, W = .fault y) ∨ (∃ y, W = .risk y) ∨ W = .back ∨ (∃ x ca cg, W = .call x ca cg) ∨ (plainW W = true ∧ ¬ kW W = Str.ofString "fault" ∧ ¬ kW W = Str.ofString "risk" ∧ ¬ kW W = Str.ofString "back" ∧ ¬ kW W = Str.ofString "call") := by
  cases W with
  | fault y => exact .inl ⟨y, rfl⟩
  | risk y => exact .inr (.inl ⟨y, rfl⟩)
  | back => exact .inr (.inr (.inl rfl))
  | call x ca cg => exact .inr (.inr (.inr (.inl ⟨x, ca, cg, rfl⟩)))
  | take b s => exact .inr (.inr (.inr (.inr ⟨rfl, (show ¬ Str.ofString "take" = Str.ofString "fault" by decide +kernel), (show ¬ Str.ofString "take" = Str.ofString "risk" by decide +kernel), (show ¬ Str.ofString "take" = Str.ofString "back" by decide +kernel), (show ¬ Str.ofString "take" = Str.ofString "call" by decide +kernel)⟩)))
  | ask b => exact .inr (.inr (.inr (.inr ⟨rfl, (show ¬ Str.ofString "ask" = Str.ofString "fault" by decide +kernel), (show ¬ Str.ofString "ask" = Str.ofString "risk" by decide +kernel), (show ¬ Str.ofString "ask" = Str.ofString "back" by decide +kernel), (show ¬ Str.ofString "ask" = Str.ofString "call" by decide +kernel)⟩)))
  | number b n => exact .inr (.inr (.inr (.inr ⟨rfl, (show ¬ Str.ofString "number" = Str.ofString "fault" by decide +kernel), (show ¬ Str.ofString "number" = Str.ofString "risk" by decide +kernel), (show ¬ Str.ofString "number" = Str.ofString "back" by decide +kernel), (show ¬ Str.ofString "number" = Str.ofString "call" by decide +kernel)⟩)))
  | copy b c => exact .inr (.inr (.inr (.inr ⟨rfl, (show ¬ Str.ofString "copy" = Str.ofString "fault" by decide +kernel), (show ¬ Str.ofString "copy" = Str.ofString "risk" by decide +kernel), (show ¬ Str.ofString "copy" = Str.ofString "back" by decide +kernel), (show ¬ Str.ofString "copy" = Str.ofString "call" by decide +kernel)⟩)))
  | mix b c d => exact .inr (.inr (.inr (.inr ⟨rfl, (show ¬ Str.ofString "mix" = Str.ofString "fault" by decide +kernel), (show ¬ Str.ofString "mix" = Str.ofString "risk" by decide +kernel), (show ¬ Str.ofString "mix" = Str.ofString "back" by decide +kernel), (show ¬ Str.ofString "mix" = Str.ofString "call" by decide +kernel)⟩)))
  | opn b c => exact .inr (.inr (.inr (.inr ⟨rfl, (show ¬ Str.ofString "open" = Str.ofString "fault" by decide +kernel), (show ¬ Str.ofString "open" = Str.ofString "risk" by decide +kernel), (show ¬ Str.ofString "open" = Str.ofString "back" by decide +kernel), (show ¬ Str.ofString "open" = Str.ofString "call" by decide +kernel)⟩)))
  | tell b => exact .inr (.inr (.inr (.inr ⟨rfl, (show ¬ Str.ofString "tell" = Str.ofString "fault" by decide +kernel), (show ¬ Str.ofString "tell" = Str.ofString "risk" by decide +kernel), (show ¬ Str.ofString "tell" = Str.ofString "back" by decide +kernel), (show ¬ Str.ofString "tell" = Str.ofString "call" by decide +kernel)⟩)))
  | wipe b => exact .inr (.inr (.inr (.inr ⟨rfl, (show ¬ Str.ofString "wipe" = Str.ofString "fault" by decide +kernel), (show ¬ Str.ofString "wipe" = Str.ofString "risk" by decide +kernel), (show ¬ Str.ofString "wipe" = Str.ofString "back" by decide +kernel), (show ¬ Str.ofString "wipe" = Str.ofString "call" by decide +kernel)⟩)))
  | clear x => exact .inr (.inr (.inr (.inr ⟨rfl, (show ¬ Str.ofString "clear" = Str.ofString "fault" by decide +kernel), (show ¬ Str.ofString "clear" = Str.ofString "risk" by decide +kernel), (show ¬ Str.ofString "clear" = Str.ofString "back" by decide +kernel), (show ¬ Str.ofString "clear" = Str.ofString "call" by decide +kernel)⟩)))
  | drop bs => exact .inr (.inr (.inr (.inr ⟨rfl, (show ¬ Str.ofString "drop" = Str.ofString "fault" by decide +kernel), (show ¬ Str.ofString "drop" = Str.ofString "risk" by decide +kernel), (show ¬ Str.ofString "drop" = Str.ofString "back" by decide +kernel), (show ¬ Str.ofString "drop" = Str.ofString "call" by decide +kernel)⟩)))
  | choose rs => exact .inr (.inr (.inr (.inr ⟨rfl, (show ¬ Str.ofString "choose" = Str.ofString "fault" by decide +kernel), (show ¬ Str.ofString "choose" = Str.ofString "risk" by decide +kernel), (show ¬ Str.ofString "choose" = Str.ofString "back" by decide +kernel), (show ¬ Str.ofString "choose" = Str.ofString "call" by decide +kernel)⟩)))
  | loop rr => exact .inr (.inr (.inr (.inr ⟨rfl, (show ¬ Str.ofString "loop" = Str.ofString "fault" by decide +kernel), (show ¬ Str.ofString "loop" = Str.ofString "risk" by decide +kernel), (show ¬ Str.ofString "loop" = Str.ofString "back" by decide +kernel), (show ¬ Str.ofString "loop" = Str.ofString "call" by decide +kernel)⟩)))
  | out n => exact .inr (.inr (.inr (.inr ⟨rfl, (show ¬ Str.ofString "out" = Str.ofString "fault" by decide +kernel), (show ¬ Str.ofString "out" = Str.ofString "risk" by decide +kernel), (show ¬ Str.ofString "out" = Str.ofString "back" by decide +kernel), (show ¬ Str.ofString "out" = Str.ofString "call" by decide +kernel)⟩)))
def ansOf (xs : List V) (m : Sm) (W : Wo) : Int := if 0 < chW W then (match xs[m.wt]? with | some (.int a) => a | _ => 0) else 0
def tick (W : Wo) (m : Sm) : Sm := { m with wt := m.wt + (if 0 < chW W then 1 else 0), st := m.st + 1 }
noncomputable def dispM (R : Pr) (W : Wo) (a : Int) (m : Sm) : Sm := match W with
  | .fault y => faultM y m
  | .risk y => if a = 1 then faultM y m else plainM R (.risk y) a m
  | .back => backM R m
  | .call x ca _ => callM R x ca m
  | W => plainM R W a m
noncomputable def stepM (R : Pr) (xs : List V) (m : Sm) : Sm := match m.fs with
  | [] => m
  | F :: _ => match R.wd F.pd with
    | none => m
    | some W => endsM R (dispM R W (ansOf xs m W) (tick W m))
theorem left_len {pd : PyData} {f : Bq → Wv} {kd Ws : List Str} {W : Wo} (h : okW kd Ws W) : (leftW pd f W).length ≤ 64 := by
  cases W with
  | drop bs =>
    show (leftB pd f bs).length ≤ 64
    unfold leftB
    obtain ⟨ys, pm, srt⟩ := srt_ex bs
    rw [srtS_eq pm srt, List.length_map]
    have h2 : bs.length < 64 := h
    have := List.length_filter_le (fun q => decide (¬ (f q).2 = [])) ys
    rw [pm.length_eq] at this
    omega
  | _ => exact Nat.zero_le _
theorem plain_iv {z : Sh} {m : Sm} {F : Fr} {fs : List Fr} {W : Wo} {a : Int} (PO : PrOk z.R z.kd z.Ws) (I : Iv z m) (ms : m.st < 1000) (h : m.fs = F :: fs) (hW : z.R.wd F.pd = some W) (pW : plainW W = true) (hch : isCh W = true → 0 ≤ a ∧ a < chW W) : Iv z (plainM z.R W a (tick W m)) := by
  have e : (tick W m).fs = F :: fs := h
  have hl := I.B.left
  have ht := I.B.told
  rw [h, List.length_cons] at hl
  have okF := I.B.okp F (by rw [h]; exact List.mem_cons_self)
  have cal := I.cal
  have okp := I.B.okp
  rw [h] at cal okp
  have okw := PO.okw _ _ okF hW
  have l1 := left_len (pd := F.pd) (f := F.f) okw
  have l2 : (tellW F.f W).length ≤ 1 := by cases W <;> first | exact Nat.zero_le _ | exact Nat.le_refl _
  have em : plainM z.R W a (tick W m) = { tick W m with fs := ⟨z.R.go F.pd (idx W a), stF F.f a W⟩ :: fs, told := m.told ++ tellW F.f W, left := m.left ++ leftW F.pd F.f W } := by
    unfold plainM; rw [e]; rfl
  rw [em]
  refine ⟨⟨I.B.kd, I.B.Ws, (show m.st + 1 ≤ 1000 by omega), ?_, ?_, fun F' mF => ?_⟩, (fun g mg => cal g mg), (fun _ e => nomatch e), I.enl⟩
  · show (m.told ++ tellW F.f W).length ≤ m.st + 1
    rw [List.length_append]; omega
  · show (m.left ++ leftW F.pd F.f W).length + 64 * (fs.length + 1) ≤ 64 * (m.st + 1 + 1)
    rw [List.length_append]; omega
  · rcases List.mem_cons.mp mF with e' | e'
    · rw [e']
      refine PO.go _ _ _ okF hW pW ?_
      unfold idx
      cases hc : isCh W with
      | true =>
        rw [if_pos rfl]
        cases W <;> first | cases hc; done | skip
        rename_i rs
        obtain ⟨a0, a1⟩ := hch rfl
        have : a < (rs.length : Int) := a1
        show a.toNat < rs.length
        omega
      | false =>
        rw [if_neg (by decide)]
        cases W <;> first | exact Nat.lt_succ_self 0 | cases hc
    · exact okp F' (List.mem_cons_of_mem _ e')
theorem call_iv {z : Sh} {m : Sm} {F : Fr} {fs : List Fr} {x : Str} {ca cg : List Str} (PO : PrOk z.R z.kd z.Ws) (I : Iv z m) (ms : m.st < 1000) (h : m.fs = F :: fs) (hW : z.R.wd F.pd = some (.call x ca cg)) : Iv z (callM z.R x ca (tick (.call x ca cg) m)) := by
  have e : (tick (.call x ca cg) m).fs = F :: fs := h
  have hl := I.B.left
  have ht := I.B.told
  rw [h, List.length_cons] at hl
  have okF := I.B.okp F (by rw [h]; exact List.mem_cons_self)
  have cal := I.cal
  have okp := I.B.okp
  rw [h] at cal okp
  have em : callM z.R x ca (tick (.call x ca cg) m) = { tick (.call x ca cg) m with fs := ⟨plcD x 0, (handF F.f (ca.zip (z.R.hd x).1)).1⟩ :: ⟨F.pd, (handF F.f (ca.zip (z.R.hd x).1)).2⟩ :: fs } := by
    unfold callM; rw [e]
  rw [em]
  refine ⟨⟨I.B.kd, I.B.Ws, (show m.st + 1 ≤ 1000 by omega), (show m.told.length ≤ m.st + 1 by omega), ?_, fun F' mF => ?_⟩, (fun g mg => ?_), (fun _ e => nomatch e), I.enl⟩
  · show m.left.length + 64 * (fs.length + 1 + 1) ≤ 64 * (m.st + 1 + 1)
    omega
  · rcases List.mem_cons.mp mF with e' | e'
    · rw [e']; exact (PO.call _ _ _ _ okF hW).1
    · rcases List.mem_cons.mp e' with e'' | e''
      · rw [e'']; exact okF
      · exact okp F' (List.mem_cons_of_mem _ e'')
  · rcases List.mem_cons.mp mg with e' | e'
    · rw [e']; exact ⟨x, ca, cg, hW⟩
    · exact cal g e'
theorem flat_len {z : Sh} (l : List Fr) (hk : z.kd.length < 64) : (∀ F ∈ l, ∀ rs, (endL F.pd F.f rs).length ≤ z.kd.length) → (l.flatMap endF).length ≤ 64 * l.length := by
  induction l with
  | nil => intro _; exact Nat.le_refl _
  | cons x l ih =>
    intro hl
    rw [List.flatMap_cons, List.length_append, List.length_cons]
    have h1 : (endF x).length ≤ z.kd.length := hl x List.mem_cons_self []
    have h2 := ih fun F mF => hl F (List.mem_cons_of_mem _ mF)
    omega
theorem tick_iv {z : Sh} {m : Sm} (W : Wo) (I : Iv z m) (ms : m.st < 1000) : Iv z (tick W m) := by
  have hl := I.B.left
  have ht := I.B.told
  exact ⟨⟨I.B.kd, I.B.Ws, (show m.st + 1 ≤ 1000 by omega), (show m.told.length ≤ m.st + 1 by omega), (show m.left.length + 64 * m.fs.length ≤ 64 * (m.st + 1 + 1) by omega), I.B.okp⟩, I.cal, I.one, I.enl⟩
theorem fault_iv {K : PySem.W.Frag} {CF CR : Addr} {z : Sh} {H : Hp} {m : Sm} {y : Str} (S : StH K CF CR z H m) (I : Iv z m) : Iv z (faultM y m) := by
  obtain ⟨as, ev, S⟩ := S
  have l := flat_len m.fs I.B.kd S.el
  have hl := I.B.left
  refine ⟨⟨I.B.kd, I.B.Ws, I.B.st, I.B.told, ?_, (fun F mF => nomatch mF)⟩, (fun g mg => nomatch mg), (fun e => nomatch e), fun ds e => by cases e; exact (by decide : 2 ≤ 10)⟩
  show (m.left ++ m.fs.flatMap endF).length + 64 * 0 ≤ 64 * (m.st + 1)
  rw [List.length_append]; omega
section
variable {P : Program} {w : World} {K : PySem.W.Frag} {mg : Str → Option Value} {base : Heap}
/-- the next answer, or 0 -/
def tAns (K : PySem.W.Frag) (CR : Addr) : TE := fun σ H Q => ∃ (y1 y3 : Option V) (nw : Addr) (r : RnS) (ch : Int) (xs : List V) (a : Int) (wt' : Nat), σ = [some (.ref nw), y1, some (.int ch), y3] ∧ RnH CR H nw r ∧ SqT K H r.an xs ∧
  (ch > 0 → xs[r.wt]? = some (.int a) ∧ 0 ≤ a ∧ a < ch ∧ wt' = r.wt + 1) ∧ (¬ ch > 0 → a = 0 ∧ wt' = r.wt) ∧ ∀ H', Ex [nw] H H' → RnH CR H' nw { r with wt := wt' } → Q (.int a) H'
def spStep (K : PySem.W.Frag) (CF CR : Addr) (G : Pr → Prop) : Sp := fun vs H Q _ => ∃ (z : Sh) (m : Sm) (F : Fr) (fs : List Fr) (W : Wo), vs = [.ref z.nw] ∧ StH K CF CR z H m ∧ G z.R ∧ PrOk z.R z.kd z.Ws ∧ Iv z m ∧ m.st < 1000 ∧ m.en = none ∧ m.fs = F :: fs ∧ z.R.wd F.pd = some W ∧
  (0 < chW W → ∃ a, z.xs[m.wt]? = some (.int a) ∧ 0 ≤ a ∧ a < chW W) ∧ ∀ H', StH K CF CR z H' (stepM z.R z.xs m) → Iv z (stepM z.R z.xs m) → ¬ atEnd z.R (stepM z.R z.xs m) → Q .non H'
theorem ok_step {f CF CR f1 f2 f3 f4 f5 f6 f7 f8 : Addr} {fd d1 d2 d3 d4 d5 d6 d7 d8 : FuncData} {k : Nat} {G : Pr → Prop} (F : Fun K "do_step" "do_step" s_step f fd) (T : TR K mg CR) (GW : FnOk P w K mg base CX0 k f1 d1 ["self"] (spWord K CF CR G)) (mW : Meth K CR "word" f1) (bW : Binds K d1 ["self"] [])
    (GN : FnOk P w K mg base CX0 k f2 d2 ["self", "choices"] (spNext K CR)) (mN : Meth K CR "next_answer" f2) (bN : Binds K d2 ["self", "choices"] [])
    (C_ch : Cl P w K mg base k "choices_of" ["word"] (spChoices K) f3 d3) (C_plain : Cl P w K mg base k "do_plain" ["now", "word", "answer"] (spPlain K CF CR G) f4 d4) (C_ends : Cl P w K mg base k "do_ends" ["now"] (spEnds K CF CR G) f5 d5)
    (C_fault : Cl P w K mg base k "do_fault" ["now", "fault"] (spFault K CF CR) f6 d6) (C_back : Cl P w K mg base k "do_back" ["now"] (spBack K CF CR G) f7 d7) (C_call : Cl P w K mg base k "do_call" ["now", "word"] (spCall K CF CR G) f8 d8) :
    FnOk P w K mg base CX0 (k + 1) f fd ["now"] (spStep K CF CR G) := by
  refine F.ok sc_step (fun vs H Q E h => ?_) (fun cdv A outer s H vs Q E hr h => ?_)
  · obtain ⟨z, m, F, fs, W, rfl, _⟩ := h; rfl
  · obtain ⟨z, m, F, fs, W, rfl, S, hG, PO, I, ms, en, ef, hW, ha, q⟩ := h
    refine ⟨_, (pss_cons (ps_set (i := 1) sc_step.nd rfl (.inl rfl) (pe_meth0 (pv 0) T.cl mW GW hr bW .nil pass0))
      (pss_cons (ps_set (i := 2) sc_step.nd rfl (.inl rfl) (pe_call C_ch.g hr (by rfl) C_ch.m C_ch.k C_ch.b .nil pass0 (pa_cons (pv 1) pa_nil)))
      (pss_cons (ps_set (i := 3) sc_step.nd rfl (.inl rfl) (PE.by (t' := tAns K CR) (pe_ifExp (pt_cmpR op_gt (pv 2) pe_int (nomark _)) (pe_meth (pv 0) T.cl mN GN hr bN .nil pass0 (pa_cons (pv 2) pa_nil)) pe_int) (by
          rintro σ H Q ⟨y1, y3, nw, r, ch, xs, a, wt', rfl, hR, ha, q1, q2, q3⟩
          refine ⟨.int ch, rfl, ch, 0, rfl, rfl, _, rfl, ite2 (fun e => ?_) fun e => ?_⟩
          · obtain ⟨h1, h2, h3, rfl⟩ := q1 (of_decide_eq_true e)
            obtain ⟨dx, fs, r1, r2⟩ := id hR
            exact ⟨.ref nw, rfl, nw, dx, fs, rfl, r1, r2.m3, .int ch, rfl, nw, r, ch, a, xs, rfl, hR, ha, h1, h2, h3, q3⟩
          · obtain ⟨rfl, rfl⟩ := q2 fun z => e (decide_eq_true z)
            exact q3 H .refl hR)))
      (pss_cons (ps_fldaug (pv 0) pe_int ip_add)
      (pss_cons (ps_if (PW.pt (pw_or (pt_cmpR op_eq (pe_ix ix_tup (pv 1) pe_int (fun _ _ => rfl)) pe_str (nomark _)) (pw_or1 (PW.pt (pw_and (pt_cmpR op_eq (pe_ix ix_tup (pv 1) pe_int (fun _ _ => rfl)) pe_str (nomark _)) (pw_and1 (pt_cmpR op_eq (pv 3) pe_int (nomark _)))))))) (pss_one (ps_expr (pe_call C_fault.g hr (by rfl) C_fault.m C_fault.k C_fault.b .nil pass0 (pa_cons (pv 0) (pa_cons (pe_ix ix_tup (pv 1) pe_int (fun _ _ => rfl)) pa_nil)))))
        (pss_one (ps_if (pt_cmpR op_eq (pe_ix ix_tup (pv 1) pe_int (fun _ _ => rfl)) pe_str (nomark _)) (pss_one (ps_expr (pe_call C_back.g hr (by rfl) C_back.m C_back.k C_back.b .nil pass0 (pa_cons (pv 0) pa_nil))))
          (pss_one (ps_if (pt_cmpR op_eq (pe_ix ix_tup (pv 1) pe_int (fun _ _ => rfl)) pe_str (nomark _)) (pss_one (ps_expr (pe_call C_call.g hr (by rfl) C_call.m C_call.k C_call.b .nil pass0 (pa_cons (pv 0) (pa_cons (pv 1) pa_nil))))) (pss_one (ps_expr (pe_call C_plain.g hr (by rfl) C_plain.m C_plain.k C_plain.b .nil pass0 (pa_cons (pv 0) (pa_cons (pv 1) (pa_cons (pv 3) pa_nil)))))))))))
      (pss_one (ps_expr (pe_call C_ends.g hr (by rfl) C_ends.m C_ends.k C_ends.b .nil pass0 (pa_cons (pv 0) pa_nil))))))))), ?_⟩
    obtain ⟨as, ev, A⟩ := id S
    have hSt := A.S
    rw [ef] at hSt
    cases hSt with
    | cons hX hT =>
    rename_i a0 as
    have U := A.un
    obtain ⟨fr, b⟩ := a0
    obtain ⟨pl, hF, tpl, hD⟩ := hX
    obtain ⟨dx, fs1, h1, h2⟩ := id A.R
    have eF : frV ((fr, b) :: as) = frV as ++ [.ref fr] := by unfold frV; rw [List.map_cons, List.reverse_cons]
    have hfl := A.fl
    rw [eF] at hfl
    have okF := I.B.okp F (by rw [ef]; exact List.mem_cons_self)
    have okw := PO.okw _ _ okF hW
    refine ⟨.ref z.nw, rfl, z.nw, dx, fs1, rfl, h1, h2.m1, z.nw, fr, b, _, pl, _, z.R, F.pd, rfl, A.R, hfl, hF, hG, A.pg.ex A.b, okF, tpl, fun u hu => ?_⟩
    rw [hW] at hu
    have hu : Tp K H u (wD W) := hu
    refine ⟨u, rfl, u, W, rfl, hu, ?_⟩
    obtain ⟨wa, wr, rfl, hws, hwr⟩ := word_in hu
    have aok : (chW W > 0 → z.xs[m.wt]? = some (.int (ansOf z.xs m W)) ∧ 0 ≤ ansOf z.xs m W ∧ ansOf z.xs m W < chW W ∧ (tick W m).wt = m.wt + 1) := fun c => by
      obtain ⟨a, e1, e2, e3⟩ := ha c
      have : ansOf z.xs m W = a := by unfold ansOf; rw [if_pos c, e1]
      rw [this]
      exact ⟨e1, e2, e3, by show m.wt + (if 0 < chW W then 1 else 0) = _; rw [if_pos c]⟩
    refine ⟨_, _, z.nw, _, chW W, z.xs, ansOf z.xs m W, (tick W m).wt, rfl, A.R, A.b.seqT A.an, aok, fun c => ⟨by unfold ansOf; rw [if_neg c], by show m.wt + (if 0 < chW W then 1 else 0) = _; rw [if_neg c]; rfl⟩, fun H1 x1 hR1 => ?_⟩
    obtain ⟨dx1, fs2, e1, e2⟩ := id hR1
    refine ⟨.ref z.nw, rfl, z.nw, CR, dx1, fs2, .int m.st, rfl, e1, T.cl, T.n3, e2.st, m.st, 1, rfl, rfl, dx1, fs2, e1, by have := e2.ln; omega, ?_⟩
    have x2 : Ex [z.nw] H1 (upd H1 z.nw (.ins CR dx1 (putF "steps" (.int ((m.st : Int) + 1)) fs2))) := .put e1 (fun _ z => by cases z) (by simp)
    have x02 := x1.trans x2
    have St : StH K CF CR z (upd H1 z.nw (.ins CR dx1 (putF "steps" (.int ((m.st : Int) + 1)) fs2))) (tick W m) := by
      obtain ⟨ls, h3, h4⟩ := A.lf
      refine ⟨(fr, b) :: as, ev, ⟨dx1, _, upd_same, e2.st1 (m.st + 1) (by rw [putF_len (by rw [e2.st]; simp)]; exact e2.ln)⟩, A.en.ex x02, x02.lst A.fl (by simpa using U.nfl.symm), A.S.ex x02 (fun c mc => ?_) (fun c mc => ?_), x02.lst A.tl (by simpa using U.ntl.symm), ⟨ls, x02.lst h3 (by simpa using U.nlf.symm), h4.ex x02⟩, Ex.owns (by simp [A.n0.1]) A.b x02, A.n0, A.n1, A.u1, A.u2, A.pg, A.an, A.d2, A.d3, A.d4⟩
      · have := (A.n1 c mc).2.2
        simpa using fun z => this z.symm
      · rcases List.mem_cons.mp mc with e | e
        · rw [e]; simpa using U.nb.symm
        · simpa using (U.on c e).2.2.2.2.1
    generalize upd H1 z.nw (.ins CR dx1 (putF "steps" (.int ((m.st : Int) + 1)) fs2)) = H2 at x2 x02 St ⊢
    clear x2 e1 e2 hR1 x1
    have hs2 := x02.seqT hws
    have hu2 : Tp K H2 (.ref wa) (wD W) := hu.ex x02
    have eft : (tick W m).fs = F :: fs := ef
    have It := tick_iv W I ms
    have es : stepM z.R z.xs m = endsM z.R (dispM z.R W (ansOf z.xs m W) (tick W m)) := by
      unfold stepM; rw [ef]; simp only [hW]
    rw [es] at q
    have fin : ∀ H3 m3, m3 = dispM z.R W (ansOf z.xs m W) (tick W m) → StH K CF CR z H3 m3 → Iv z m3 → spEnds K CF CR G [.ref z.nw] H3 (fun _ H4 => Q .non H4) (E0 : XK) := fun H3 m3 e3 S3 I3 => by
      subst e3
      exact ⟨z, _, rfl, S3, hG, PO, I3, q⟩
    rcases step_k W with ⟨y, rfl⟩ | ⟨y, rfl⟩ | rfl | ⟨x, ca, cg, rfl⟩ | ⟨pW, n1, n2, n3, n4⟩
    · obtain ⟨r1, rfl, _⟩ := one_s hwr
      refine ⟨.ref wa, rfl, wa, _, 0, _, rfl, rfl, hs2, at0, rfl, _, rfl, sY (iteT ?_)⟩
      refine ⟨.ref z.nw, rfl, .ref wa, rfl, wa, _, 1, _, rfl, rfl, hs2, at1, z, _, y, rfl, St, It.B, fun H3 S3 => ?_⟩
      exact ⟨.ref z.nw, rfl, fin H3 _ rfl S3 (fault_iv St It)⟩
    · obtain ⟨r1, rfl, _⟩ := one_s hwr
      refine ⟨.ref wa, rfl, wa, _, 0, _, rfl, rfl, hs2, at0, rfl, _, rfl, sN (show ¬ Str.ofString "risk" = Str.ofString "fault" by decide +kernel) ?_⟩
      refine ⟨.ref wa, rfl, wa, _, 0, _, rfl, rfl, hs2, at0, rfl, _, rfl, sY ?_⟩
      have ed : dispM z.R (.risk y) (ansOf z.xs m (.risk y)) (tick (.risk y) m) = if ansOf z.xs m (.risk y) = 1 then faultM y (tick (.risk y) m) else plainM z.R (.risk y) (ansOf z.xs m (.risk y)) (tick (.risk y) m) := rfl
      refine ⟨.int (ansOf z.xs m (.risk y)), rfl, rfl, _, rfl, ?_⟩
      by_cases e : ansOf z.xs m (.risk y) = 1
      · rw [if_pos e] at ed
        rw [if_pos (decide_eq_true (by rw [e]))]
        refine ⟨.ref z.nw, rfl, .ref wa, rfl, wa, _, 1, _, rfl, rfl, hs2, at1, z, _, y, rfl, St, It.B, fun H3 S3 => ?_⟩
        exact ⟨.ref z.nw, rfl, fin H3 _ ed.symm S3 (fault_iv St It)⟩
      · rw [if_neg e] at ed
        rw [if_neg fun zz => e (V.int.inj (of_decide_eq_true zz))]
        refine ⟨.ref wa, rfl, wa, _, 0, _, rfl, rfl, hs2, at0, rfl, _, rfl, sN (show ¬ Str.ofString "risk" = Str.ofString "back" by decide +kernel) ⟨.ref wa, rfl, wa, _, 0, _, rfl, rfl, hs2, at0, rfl, _, rfl, sN (show ¬ Str.ofString "risk" = Str.ofString "call" by decide +kernel) ?_⟩⟩
        refine ⟨.ref z.nw, rfl, .ref wa, rfl, .int (ansOf z.xs m (.risk y)), rfl, ?_⟩
        dsimp only [tNil, List.append_nil]
        refine ⟨z, _, F, fs, .risk y, .ref wa, _, rfl, St, hG, It.B, eft, hW, hu2, rfl, okw, (fun c => nomatch c), fun H3 S3 => ?_⟩
        exact ⟨.ref z.nw, rfl, fin H3 _ ed.symm S3 (plain_iv PO I ms ef hW rfl fun c => nomatch c)⟩
    · refine ⟨.ref wa, rfl, wa, _, 0, _, rfl, rfl, hs2, at0, rfl, _, rfl, sN (show ¬ Str.ofString "back" = Str.ofString "fault" by decide +kernel) ?_⟩
      refine ⟨.ref wa, rfl, wa, _, 0, _, rfl, rfl, hs2, at0, rfl, _, rfl, sN (show ¬ Str.ofString "back" = Str.ofString "risk" by decide +kernel) ?_⟩
      refine ⟨.ref wa, rfl, wa, _, 0, _, rfl, rfl, hs2, at0, rfl, _, rfl, sY ?_⟩
      have cal := It.cal
      rw [eft] at cal
      refine ⟨.ref z.nw, rfl, z, _, F, fs, rfl, St, hG, PO, It.B, eft, en, cal, fun H3 S3 => ?_⟩
      exact ⟨.ref z.nw, rfl, fin H3 _ rfl S3 (back_iv St PO It eft en)⟩
    · refine ⟨.ref wa, rfl, wa, _, 0, _, rfl, rfl, hs2, at0, rfl, _, rfl, sN (show ¬ Str.ofString "call" = Str.ofString "fault" by decide +kernel) ?_⟩
      refine ⟨.ref wa, rfl, wa, _, 0, _, rfl, rfl, hs2, at0, rfl, _, rfl, sN (show ¬ Str.ofString "call" = Str.ofString "risk" by decide +kernel) ?_⟩
      refine ⟨.ref wa, rfl, wa, _, 0, _, rfl, rfl, hs2, at0, rfl, _, rfl, sN (show ¬ Str.ofString "call" = Str.ofString "back" by decide +kernel) ?_⟩
      refine ⟨.ref wa, rfl, wa, _, 0, _, rfl, rfl, hs2, at0, rfl, _, rfl, sY ?_⟩
      refine ⟨.ref z.nw, rfl, .ref wa, rfl, z, _, F, fs, x, ca, cg, .ref wa, rfl, St, hG, PO, It.B, eft, hW, hu2, fun H3 S3 => ?_⟩
      exact ⟨.ref z.nw, rfl, fin H3 _ rfl S3 (call_iv PO I ms ef hW)⟩
    · have ed : dispM z.R W (ansOf z.xs m W) (tick W m) = plainM z.R W (ansOf z.xs m W) (tick W m) := by
        cases W <;> first | rfl | exact absurd rfl n1 | exact absurd rfl n2 | exact absurd rfl n3 | exact absurd rfl n4
      have hch : isCh W = true → 0 ≤ ansOf z.xs m W ∧ ansOf z.xs m W < chW W := fun c => by
        have pos : chW W > 0 := by
          obtain ⟨rs, e⟩ : ∃ rs, W = .choose rs := by cases W <;> first | exact ⟨_, rfl⟩ | cases c
          rw [e] at hW ⊢
          have := PO.chs _ _ okF hW
          show (0 : Int) < (rs.length : Int)
          omega
        exact ⟨(aok pos).2.1, (aok pos).2.2.1⟩
      refine ⟨.ref wa, rfl, wa, _, 0, _, rfl, rfl, hs2, at0, rfl, _, rfl, sN n1 ⟨.ref wa, rfl, wa, _, 0, _, rfl, rfl, hs2, at0, rfl, _, rfl, sN n2 ?_⟩⟩
      refine ⟨.ref wa, rfl, wa, _, 0, _, rfl, rfl, hs2, at0, rfl, _, rfl, sN n3 ⟨.ref wa, rfl, wa, _, 0, _, rfl, rfl, hs2, at0, rfl, _, rfl, sN n4 ?_⟩⟩
      refine ⟨.ref z.nw, rfl, .ref wa, rfl, .int (ansOf z.xs m W), rfl, ?_⟩
      dsimp only [tNil, List.append_nil]
      refine ⟨z, _, F, fs, W, .ref wa, _, rfl, St, hG, It.B, eft, hW, hu2, pW, okw, hch, fun H3 S3 => ?_⟩
      exact ⟨.ref z.nw, rfl, fin H3 _ ed.symm S3 (plain_iv PO I ms ef hW pW hch)⟩
end
end K13

set_option maxHeartbeats 4000000
namespace K13
open PySem PySem.Spec PyProof.Rows L2 Kk RZ
abbrev s_run : Stmt := topS 37
theorem sc_run : FnScope ["program", "answers", "most", "now", "done", "frame"] ["program", "answers", "most"] (defScope s_run) := ⟨rfl, rfl, rfl, by decide +kernel, rfl, by decide +kernel, by decide +kernel⟩
def m0 : Sm := ⟨[⟨plcD emp 0, zF⟩], [], [], 0, 0, none⟩
/-- an answer lacks -/
def lacks (R : Pr) (xs : List V) (m : Sm) : Prop := ∃ F fs W, m.fs = F :: fs ∧ R.wd F.pd = some W ∧ 0 < chW W ∧ m.wt = xs.length
def live (R : Pr) (xs : List V) (most : Nat) (m : Sm) : Prop := m.en = none ∧ m.st < most ∧ ¬ lacks R xs m
open Classical in
noncomputable def goN (R : Pr) (xs : List V) (most : Nat) : Nat → Sm → Sm
  | 0, m => m
  | n + 1, m => if live R xs most m then goN R xs most n (stepM R xs m) else m
noncomputable def runM (R : Pr) (xs : List V) (most : Nat) : Sm := goN R xs most most (endsM R m0)
theorem goN_no {R : Pr} {xs : List V} {most : Nat} {m : Sm} (h : ¬ live R xs most m) : ∀ n, goN R xs most n m = m
  | 0 => rfl
  | n + 1 => by unfold goN; rw [if_neg h]
theorem goN_yes {R : Pr} {xs : List V} {most : Nat} {m : Sm} (h : live R xs most m) (n : Nat) : goN R xs most (n + 1) m = goN R xs most n (stepM R xs m) := by
  conv => lhs; unfold goN
  rw [if_pos h]
inductive Reach (R : Pr) (xs : List V) (most : Nat) : Sm → Prop
  | start : Reach R xs most (endsM R m0)
  | step {m : Sm} (h : Reach R xs most m) (l : live R xs most m) : Reach R xs most (stepM R xs m)
/-- the answers are such as can be given -/
def AnsOk (R : Pr) (xs : List V) (most : Nat) : Prop := ∀ m, Reach R xs most m → ∀ F fs W, m.fs = F :: fs → R.wd F.pd = some W → 0 < chW W → m.wt < xs.length → ∃ a, xs[m.wt]? = some (.int a) ∧ 0 ≤ a ∧ a < chW W
/-- the boxes that hold something, rising -/
def HdL (f : Bq → Wv) (qs : List Str) : Prop := qs.Pairwise leS ∧ qs.Nodup ∧ ∀ q, q ∈ qs ↔ ¬ f q = (0, [])
noncomputable def hdL (f : Bq → Wv) : List Str := Classical.epsilon (HdL f)
theorem hdL_eq {f : Bq → Wv} {qs : List Str} (h : HdL f qs) : hdL f = qs := by
  have s : HdL f (hdL f) := Classical.epsilon_spec ⟨qs, h⟩
  exact srt_uniq _ _ s.1 h.1 s.2.1 h.2.1 fun x => by rw [s.2.2 x, h.2.2 x]
noncomputable def resM (m : Sm) : PyData := match m.en with
  | some ds => .tuple (ds ++ [.int m.st, .tuple (m.told.map .int), .tuple m.left])
  | none => match m.fs with
    | [] => .none
    | F :: _ => .tuple [.str (Str.ofString "on"), F.pd, .int m.st, .tuple (m.told.map .int), .tuple m.left, .tuple ((hdL F.f).map (oneD F.f))]
noncomputable def resD (R : Pr) (xs : List V) (most : Nat) : PyData := resM (runM R xs most)
theorem back_ws {R : Pr} {m : Sm} : (backM R m).wt = m.wt ∧ (backM R m).st = m.st := by
  unfold backM
  split <;> exact ⟨rfl, rfl⟩
theorem ends_ws {R : Pr} : ∀ (n : Nat) (m : Sm), (endsN R n m).wt = m.wt ∧ (endsN R n m).st = m.st
  | 0, m => ⟨rfl, rfl⟩
  | n + 1, m => by
    unfold endsN
    split
    · rw [(ends_ws n _).1, (ends_ws n _).2]; exact back_ws
    · exact ⟨rfl, rfl⟩
theorem disp_ws {R : Pr} {W : Wo} {a : Int} {m : Sm} : (dispM R W a m).wt = m.wt ∧ (dispM R W a m).st = m.st := by
  have p : ∀ W, (plainM R W a m).wt = m.wt ∧ (plainM R W a m).st = m.st := fun W => by unfold plainM; split <;> exact ⟨rfl, rfl⟩
  unfold dispM
  split
  · exact ⟨rfl, rfl⟩
  · split
    · exact ⟨rfl, rfl⟩
    · exact p _
  · exact back_ws
  · unfold callM; split <;> exact ⟨rfl, rfl⟩
  · exact p _
theorem step_ws {R : Pr} {xs : List V} {m : Sm} {F : Fr} {fs : List Fr} {W : Wo} (h : m.fs = F :: fs) (hW : R.wd F.pd = some W) : (stepM R xs m).wt = m.wt + (if 0 < chW W then 1 else 0) ∧ (stepM R xs m).st = m.st + 1 := by
  have e : stepM R xs m = endsM R (dispM R W (ansOf xs m W) (tick W m)) := by unfold stepM; rw [h]; simp only [hW]
  rw [e]
  unfold endsM
  rw [(ends_ws _ _).1, (ends_ws _ _).2, disp_ws.1, disp_ws.2]
  exact ⟨rfl, rfl⟩
theorem ints_all {K : PySem.W.Frag} {H : Hp} (l : List Int) : TpAll K H (l.map V.int) (l.map PyData.int) := by
  induction l with
  | nil => exact .nil
  | cons n l ih => exact .cons (.int _) ih
section
variable {P : Program} {w : World} {K : PySem.W.Frag} {mg : Str → Option Value} {base : Heap}
structure RunOk (R : Pr) (xs : List V) (most : Nat) (kd Ws : List Str) : Prop where
  PO : PrOk R kd Ws
  kdl : kd.length < 64
  wsl : Ws.length ≤ 20
  ws : ∀ s ∈ Ws, PyData.strOk s = true
  mo : most ≤ 1000
  st : R.okp (plcD emp 0)
  an : AnsOk R xs most
def spRun (K : PySem.W.Frag) (G : Pr → Prop) : Sp := fun vs H Q _ => ∃ (p : V) (an : Addr) (most : Nat) (R : Pr) (xs : List V) (kd Ws : List Str), vs = [p, .ref an, .int most] ∧ Tp K H p R.d ∧ SqT K H an xs ∧ G R ∧ RunOk R xs most kd Ws ∧
  ∀ H' v, Ex [] H H' → Tp K H' v (resD R xs most) → Q v H'
/-- what is answered, once it goes no further -/
def tDone (K : PySem.W.Frag) (CF CR : Addr) : TS := fun D σ H => ∃ (z : Sh) (m : Sm) (v0 v1 v2 : Option V), σ = [v0, v1, v2, some (.ref z.nw), none, none] ∧ StH K CF CR z H m ∧ Iv z m ∧ (∀ s ∈ z.Ws, PyData.strOk s = true) ∧ ∀ H' v, Ex [] z.H0 H' → Tp K H' v (resM m) → D.rt v H'
theorem pss_by {X : Cx} {st : List Stmt} {t t' : TS} (h : PSs X st t) (imp : ∀ D σ H, t' D σ H → t D σ H) : PSs X st t' := ⟨fun pins s σ H D I q => h.run pins s σ H D I (imp D σ H q)⟩
theorem ok_run {f CF CR fRI fL fHd f1 f2 : Addr} {fd dRI dL dHd d1 d2 : FuncData} {k : Nat} {G : Pr → Prop} (F : Fun K "run" "run" s_run f fd) (T : TR K mg CR) (TFr : TF K mg CF) (MR : Mk K CR fRI)
    (GRI : FnOk P w K mg base CX0 k fRI dRI ["self", "program", "answers"] (spRInit K CF CR)) (bRI : Binds K dRI ["self", "program", "answers"] [])
    (GL : FnOk P w K mg base CX0 (k + 1) fL dL ["self"] (spLacks K CF CR G)) (mL : Meth K CR "lacks_answer" fL) (bL : Binds K dL ["self"] [])
    (GHd : FnOk P w K mg base CX0 (k + 1) fHd dHd ["self"] (spHeld K CF)) (mHd : Meth K CF "held" fHd) (bHd : Binds K dHd ["self"] [])
    (C_ends : Cl P w K mg base (k + 1) "do_ends" ["now"] (spEnds K CF CR G) f1 d1) (C_step : Cl P w K mg base (k + 1) "do_step" ["now"] (spStep K CF CR G) f2 d2) (m_tuple : mg "tuple" = none) : FnOk P w K mg base CX0 (k + 2) f fd ["program", "answers", "most"] (spRun K G) := by
  refine F.ok sc_run (fun vs H Q E h => ?_) (fun cdv A outer s H vs Q E hr h => ?_)
  · obtain ⟨p, an, most, R, xs, kd, Ws, rfl, _⟩ := h; rfl
  · obtain ⟨p, an, most, R, xs, kd, Ws, rfl, hp, han, hG, RO, q⟩ := h
    refine ⟨_, (pss_cons (ps_set (i := 3) sc_run.nd rfl (.inl rfl) (pe_make MR GRI hr (by rfl) T.mgC bRI .nil pass0 (pa_cons (pv 0) (pa_cons (pv 1) pa_nil))))
      (pss_cons (ps_expr (pe_call C_ends.g hr (by rfl) C_ends.m C_ends.k C_ends.b .nil pass0 (pa_cons (pv 3) pa_nil)))
      (pss_cons (ps_while PassesOwn.never (PW.pt (pw_and (pt_cmpR op_isN (pe_fld (pv 3) rfl) pe_non (nomark _)) (pw_and (pt_cmpR op_lt (pe_fld (pv 3) rfl) (pv 2) (nomark _)) (pw_and1 (pt_not (pt_val (pe_meth0 (pv 3) T.cl mL GL hr bL .nil pass0))))))) (pss_one (ps_expr (pe_call C_step.g hr (by rfl) C_step.m C_step.k C_step.b .nil pass0 (pa_cons (pv 3) pa_nil)))))
      (pss_by (t' := tDone K CF CR) (pss_cons (ps_set (i := 4) sc_run.nd rfl (.inl rfl) (pe_tup (pa_cons (pe_fld (pv 3) rfl) (pa_cons (pe_callTy call_tuple_of (by rfl) m_tuple (by decide +kernel) (pa_cons (pe_fld (pv 3) rfl) pa_nil)) (pa_cons (pe_callTy call_tuple_of (by rfl) m_tuple (by decide +kernel) (pa_cons (pe_fld (pv 3) rfl) pa_nil)) pa_nil)))))
      (pss_cons (ps_if (pt_cmpR op_notN (pe_fld (pv 3) rfl) pe_non (nomark _)) (pss_one (ps_ret (pe_op op_catA (pe_fld (pv 3) rfl) (pv 4)))) pss_nil)
      (pss_cons (ps_set (i := 5) sc_run.nd rfl (.inl rfl) (pe_ix ix_list (pe_fld (pv 3) rfl) (pe_un un_neg pe_int) (fun _ _ => rfl)))
      (pss_one (ps_ret (pe_tup (pa_cons pe_str (pa_cons (pe_fld (pv 5) rfl) (StX.pa_star (pv 4) (pa_cons (pe_meth0 (pv 5) TFr.cl mHd GHd hr bHd .nil pass0) pa_nil)))))))))) (by
        rintro D σ H3 ⟨z, m, v0, v1, v2, rfl, ⟨as, ev, A3⟩, I3, hws, q⟩
        obtain ⟨dx3, fs3, h1, h2⟩ := id A3.R
        obtain ⟨ls3, hlf3, tls3⟩ := A3.lf
        refine ⟨.ref z.nw, rfl, z.nw, CR, dx3, fs3, .int m.st, rfl, h1, T.cl, T.n3, h2.st, .ref z.nw, rfl, z.nw, CR, dx3, fs3, .ref z.tl, rfl, h1, T.cl, T.n4, h2.tl, z.tl, _, rfl, .inl ⟨.of A3.tl, fun t1 n1 => ?_⟩⟩
        have y1 : Ex [] H3 (upd H3 t1 (.tup (m.told.map V.int))) := .new n1
        refine ⟨.ref z.nw, rfl, z.nw, CR, dx3, fs3, .ref z.lf, rfl, y1.a z.nw _ (by simp) h1 (fun _ z => by cases z), T.cl, T.n5, h2.lf, z.lf, _, rfl, .inl ⟨.of (y1.lst hlf3), fun t2 n2 => ?_⟩⟩
        have y2 : Ex [] (upd H3 t1 (.tup (m.told.map V.int))) (upd (upd H3 t1 (.tup (m.told.map V.int))) t2 (.tup ls3)) := .new n2
        refine ⟨l3, fun dn n3 => ?_⟩
        have y3 : Ex [] (upd (upd H3 t1 (.tup (m.told.map V.int))) t2 (.tup ls3)) (upd (upd (upd H3 t1 (.tup (m.told.map V.int))) t2 (.tup ls3)) dn (.tup [.int m.st, .ref t1, .ref t2])) := .new n3
        have hdn : (upd (upd (upd H3 t1 (.tup (m.told.map V.int))) t2 (.tup ls3)) dn (.tup [.int m.st, .ref t1, .ref t2])) dn = some (.tup [.int m.st, .ref t1, .ref t2]) := upd_same
        have ht1 := y3.tup (y2.tup (upd_same (H := H3) (a := t1) (o := .tup (m.told.map V.int))))
        have ht2 := y3.tup (upd_same (H := upd H3 t1 (.tup (m.told.map V.int))) (a := t2) (o := .tup ls3))
        have y := (y1.trans y2).trans y3
        generalize upd (upd (upd H3 t1 (.tup (m.told.map V.int))) t2 (.tup ls3)) dn (.tup [.int m.st, .ref t1, .ref t2]) = H6 at hdn ht1 ht2 y
        have A6 := A3.ex y
        obtain ⟨dx6, fs6, h61, h62⟩ := id A6.R
        cases en : m.en with
        | some ds =>
          have he := A6.en
          rw [en] at he
          obtain ⟨ea, exs, rfl, hes, hea⟩ := he
          refine ⟨.ref z.nw, rfl, z.nw, CR, dx6, fs6, .ref ea, rfl, h61, T.cl, T.n6, h62.en, rfl, _, rfl, ?_⟩
          show if (!decide (V.ref ea = V.non)) = true then _ else _
          rw [decide_eq_false (show ¬ V.ref ea = V.non from fun z => by cases z), if_pos (by decide)]
          refine ⟨.ref z.nw, rfl, z.nw, CR, dx6, fs6, .ref ea, rfl, h61, T.cl, T.n6, h62.en, .ref dn, rfl, ?_⟩
          refine tp_cat (K := K) (ds := ds) (es := [.int m.st, .tuple (m.told.map .int), .tuple m.left]) hes (.of hdn) hea
            (.cons (.int _) (.cons (.tup (.of ht1) (ints_all _)) (.cons (.tup (.of ht2) (tls3.ex y)) .nil))) (by have := I3.enl ds en; simp; omega) fun p7 H7 zs x7 hs7 ht7 => ?_
          refine q _ _ (A6.b.trans x7) ?_
          unfold resM
          rw [en]
          exact .tup hs7 ht7
        | none =>
          have he := A6.en
          rw [en] at he
          obtain rfl : ev = .non := he
          refine ⟨.ref z.nw, rfl, z.nw, CR, dx6, fs6, .non, rfl, h61, T.cl, T.n6, h62.en, rfl, _, rfl, ?_⟩
          show if (!decide (V.non = V.non)) = true then _ else _
          rw [decide_eq_true (show V.non = V.non from rfl), if_neg (by decide)]
          cases hfs : m.fs with
          | nil => exact absurd hfs (I3.one en)
          | cons F6 fs7 =>
          have hSt := A6.S
          rw [hfs] at hSt
          cases hSt with
          | cons hX hT =>
          rename_i a0 as
          obtain ⟨fr, b⟩ := a0
          obtain ⟨pl6, hF6, tpl6, hD6⟩ := hX
          obtain ⟨dF6, fF6, g1, g2, g3, g4, g5, g6⟩ := id hF6
          have eF : frV ((fr, b) :: as) = frV as ++ [.ref fr] := by unfold frV; rw [List.map_cons, List.reverse_cons]
          have hfl := A6.fl
          rw [eF] at hfl
          refine ⟨.ref z.nw, rfl, z.nw, CR, dx6, fs6, .ref z.fl, rfl, h61, T.cl, T.n7, h62.fl, 1, rfl, z.fl, _, -1, .ref fr, rfl, rfl, .of hfl, atI_last _ _, ?_⟩
          refine ⟨.ref fr, rfl, fr, CF, dF6, fF6, pl6, rfl, g1, TFr.cl, TFr.nP, g3, .ref dn, rfl, dn, _, rfl, .inl (.of hdn), .ref fr, rfl, fr, dF6, fF6, rfl, g1, g5, fr, b, pl6, z.kd, z.Ws, _, F6.f, rfl, hF6, hD6, by have := I3.B.kd; omega, hws, fun H7 t xs7 qs x7 hs7 ht7 pw nd mem len => ?_⟩
          refine ⟨(by show 6 ≤ sizeLine; decide), fun u nu => ?_⟩
          have xu : Ex [] H7 (upd H7 u (.tup [.str (Str.ofString "on"), pl6, .int m.st, .ref t1, .ref t2, .ref t])) := .new nu
          have x6u := x7.trans xu
          refine q _ _ (A6.b.trans x6u) ?_
          unfold resM
          rw [en, hfs]
          simp only []
          rw [hdL_eq ⟨pw, nd, mem⟩]
          exact .tup (.of upd_same) (.cons (.str _) (.cons (tpl6.ex x6u) (.cons (.int _) (.cons (.tup (x6u.seqT (.of ht1)) (ints_all _)) (.cons (.tup (x6u.seqT (.of ht2)) (((tls3.ex y).ex x6u))) (.cons (.tup (xu.seqT hs7) (ht7.ex xu)) .nil))))))))))), ?_⟩
    refine ⟨p, rfl, .ref an, rfl, fun nw dx nnw ndx nex => ?_⟩
    have xd : Ex [nw] H (upd H dx (.own nw)) := .new ndx
    have nnw2 : (upd H dx (.own nw)) nw = none := by rw [upd_ne nex.symm]; exact nnw
    have xn : Ex [nw] (upd H dx (.own nw)) (upd (upd H dx (.own nw)) nw (.ins CR dx [])) := .new nnw2
    refine ⟨nw, dx, an, p, rfl, upd_same, fun H1 fr b tl lf fl pl x1 nfr nb ntl nlf nfl hR1 hF1 tpl1 hb1 htl1 hlf1 hfl1 e1 e2 e3 => ⟨rfl, ?_⟩⟩
    have nfr0 : H fr = none := upd_free (upd_free nfr)
    have nb0 : H b = none := upd_free (upd_free nb)
    have ntl0 : H tl = none := upd_free (upd_free ntl)
    have nlf0 : H lf = none := upd_free (upd_free nlf)
    have nfl0 : H fl = none := upd_free (upd_free nfl)
    have x01 : Ex [nw] H H1 := (xd.trans xn).trans x1
    have nwfr : nw ≠ fr := fun z => by rw [← z, upd_same] at nfr; cases nfr
    generalize hz : (⟨nw, p, an, tl, lf, fl, xs, kd, Ws, R, H⟩ : Sh) = z
    have z1 : z.nw = nw := by rw [← hz]
    have z2 : z.R = R := by rw [← hz]
    have z3 : z.xs = xs := by rw [← hz]
    have z4 : z.H0 = H := by rw [← hz]
    have z5 : z.kd = kd := by rw [← hz]
    have z6 : z.Ws = Ws := by rw [← hz]
    have z7 : z.tl = tl := by rw [← hz]
    have z8 : z.lf = lf := by rw [← hz]
    have z9 : z.fl = fl := by rw [← hz]
    have S1 : StH K CF CR z H1 m0 := by
      subst hz
      exact ⟨[(fr, b)], .non, hR1, rfl, hfl1, .cons ⟨pl, hF1, tpl1, (hd_new hb1).mono (Nat.zero_le _)⟩ .nil, htl1, ⟨[], hlf1, .nil⟩, Ex.own nnw .refl x01, ⟨nnw, ntl0, nlf0, nfl0⟩, (fun c mc => by obtain rfl := List.mem_singleton.mp mc; exact ⟨nfr0, nb0, nwfr⟩), (by simp), (by simp), hp, han, e1, e2, e3⟩
    have PO : PrOk z.R z.kd z.Ws := by rw [z2, z5, z6]; exact RO.PO
    have hG' : G z.R := by rw [z2]; exact hG
    have I0 : Iv z m0 := ⟨⟨by rw [z5]; exact RO.kdl, by rw [z6]; exact RO.wsl, Nat.zero_le _, Nat.le_refl _, Nat.le_refl _, fun F mF => by rw [z2]; obtain rfl := List.mem_singleton.mp mF; exact RO.st⟩, (fun g mg => nomatch mg), (fun _ e => nomatch e), fun ds e => nomatch e⟩
    refine ⟨.ref nw, rfl, z, m0, by rw [z1]; rfl, S1, hG', PO, I0, fun H2 S2 I2 na2 => ?_⟩
    rw [z2] at S2 I2 na2
    refine ⟨fun M σ H3 => ∃ m, σ = [some p, some (.ref an), some (.int most), some (.ref nw), none, none] ∧ StH K CF CR z H3 m ∧ Iv z m ∧ ¬ atEnd R m ∧ m.st ≤ most ∧ m.wt ≤ xs.length ∧ Reach R xs most m ∧ M = most - m.st ∧ goN R xs most M m = runM R xs most, ⟨most, endsM R m0, rfl, S2, I2, na2, ?_, ?_, .start, ?_, rfl⟩, ?_⟩
    · unfold endsM; rw [(ends_ws _ _).2]; exact Nat.zero_le _
    · unfold endsM; rw [(ends_ws _ _).1]; exact Nat.zero_le _
    · unfold endsM; rw [(ends_ws _ _).2]; rfl
    rintro M σ H3 ⟨m, rfl, S3, I3, na3, ls, lw, rch, rfl, eg⟩
    obtain ⟨as, ev, A3⟩ := id S3
    obtain ⟨dx3, fs3, h1, h2⟩ := id A3.R
    rw [z1] at h1
    obtain ⟨ls3, hlf3, tls3⟩ := A3.lf
    have tail : ¬ live R xs most m → tDone K CF CR { nx := fun x H' => Q V.non H', rt := Q } [some p, some (.ref an), some (.int most), some (.ref nw), none, none] H3 := fun nl => by
      refine ⟨z, m, _, _, _, by rw [z1], S3, I3, by rw [z6]; exact RO.ws, fun H' v x' tv => q H' v (by rw [z4] at x'; exact x') ?_⟩
      unfold resD
      rw [← eg, goN_no nl]; exact tv
    cases en : m.en with
    | some ds =>
      have he := A3.en
      rw [en] at he
      obtain ⟨ea, exs, rfl, hes, hea⟩ := he
      have nl : ¬ live R xs most m := fun l => by rw [l.1] at en; cases en
      exact ⟨.ref nw, rfl, nw, CR, dx3, fs3, .ref ea, rfl, h1, T.cl, T.n6, h2.en, rfl, _, rfl, itN (by simp) (tail nl)⟩
    | none =>
      have he := A3.en
      rw [en] at he
      obtain rfl : ev = .non := he
      refine ⟨.ref nw, rfl, nw, CR, dx3, fs3, .non, rfl, h1, T.cl, T.n6, h2.en, rfl, _, rfl, itD rfl ?_⟩
      refine ⟨.ref nw, rfl, nw, CR, dx3, fs3, .int m.st, rfl, h1, T.cl, T.n3, h2.st, .int most, rfl, m.st, most, rfl, rfl, _, rfl, ?_⟩
      rcases Nat.lt_or_ge m.st most with lm | lm
      · refine itD (by omega) ?_
        cases hfs : m.fs with
        | nil => exact absurd hfs (I3.one en)
        | cons F3 fs7 =>
        have hSt := A3.S
        rw [hfs] at hSt
        cases hSt with
        | cons hX hT =>
        rename_i a0 as
        obtain ⟨fr9, b9⟩ := a0
        obtain ⟨pl3, hF3, tpl3, hD3⟩ := hX
        have eF : frV ((fr9, b9) :: as) = frV as ++ [.ref fr9] := by unfold frV; rw [List.map_cons, List.reverse_cons]
        have hfl := A3.fl
        rw [eF] at hfl
        have okF := I3.B.okp F3 (by rw [hfs]; exact List.mem_cons_self)
        cases hw : R.wd F3.pd with
        | none => exact absurd ⟨en, F3, fs7, hfs, hw⟩ na3
        | some W =>
        have hRz := A3.R
        rw [z1] at hRz
        refine ⟨.ref nw, rfl, nw, dx3, fs3, rfl, h1, h2.m2, nw, fr9, b9, _, pl3, _, z.R, F3.pd, W, z.xs, rfl, hRz, hfl, hF3, hG', A3.pg.ex A3.b, okF, tpl3, by rw [z2]; exact hw, A3.b.seqT A3.an, _, rfl, ?_⟩
        show if (!(decide (0 < chW W) && decide (m.wt = z.xs.length))) = true then _ else _
        rw [z3]
        by_cases lk : 0 < chW W ∧ m.wt = xs.length
        · rw [decide_eq_true lk.1, decide_eq_true lk.2, if_neg (by decide)]
          exact tail fun l => l.2.2 ⟨F3, fs7, W, hfs, hw, lk.1, lk.2⟩
        · have e0 : (decide (0 < chW W) && decide (m.wt = xs.length)) = false := by
            rw [Bool.and_eq_false_iff]
            by_cases c : 0 < chW W
            · exact .inr (decide_eq_false fun e => lk ⟨c, e⟩)
            · exact .inl (decide_eq_false c)
          rw [e0, if_pos (by decide)]
          have lv : live R xs most m := ⟨en, lm, fun l => by
            obtain ⟨F', fs', W', a1, a2, a3, a4⟩ := l
            rw [hfs] at a1
            cases a1
            rw [hw] at a2
            cases a2
            exact lk ⟨a3, a4⟩⟩
          have lx : 0 < chW W → m.wt < xs.length := fun c => Nat.lt_of_le_of_ne lw fun e => lk ⟨c, e⟩
          have ws := step_ws (xs := xs) hfs hw
          refine ⟨fun σ' H' => ∃ m', m' < most - m.st ∧ ∃ m2, σ' = [some p, some (.ref an), some (.int most), some (.ref nw), none, none] ∧ StH K CF CR z H' m2 ∧ Iv z m2 ∧ ¬ atEnd R m2 ∧ m2.st ≤ most ∧ m2.wt ≤ xs.length ∧ Reach R xs most m2 ∧ m' = most - m2.st ∧ goN R xs most m' m2 = runM R xs most, fun _ _ z => z, ?_⟩
          refine ⟨.ref nw, rfl, z, m, F3, fs7, W, by rw [z1]; rfl, S3, hG', PO, I3, by have := RO.mo; omega, en, hfs, by rw [z2]; exact hw, fun c => by rw [z3]; exact RO.an m rch F3 fs7 W hfs hw c (lx c), fun H4 S4 I4 na4 => ?_⟩
          rw [z2, z3] at S4 I4 na4
          refine ⟨most - (m.st + 1), by omega, stepM R xs m, rfl, S4, I4, na4, by rw [ws.2]; omega, ?_, .step rch lv, by rw [ws.2], ?_⟩
          · rw [ws.1]
            split
            · rename_i c
              have := lx c
              omega
            · exact lw
          · rw [← eg]
            have : most - m.st = (most - (m.st + 1)) + 1 := by omega
            rw [this, goN_yes lv]
      · refine itN (by omega) (tail fun l => by have := l.2.1; omega)
end
end K13

set_option maxHeartbeats 4000000
namespace K13
open PySem PySem.Spec PyProof.Rows L2 Kk RZ
abbrev s_def_of : Stmt := topS 9
abbrev s_row_of : Stmt := topS 10
abbrev s_around : Stmt := topS 12
abbrev s_wordat : Stmt := topS 13
abbrev s_behind : Stmt := topS 14
abbrev s_head : Stmt := topS 20
abbrev s_leads : Stmt := topS 22
theorem sc_def_of : FnScope ["program", "name", "one"] ["program", "name"] (defScope s_def_of) := ⟨rfl, rfl, rfl, by decide +kernel, rfl, by decide +kernel, by decide +kernel⟩
theorem sc_row_of : FnScope ["program", "name"] ["program", "name"] (defScope s_row_of) := ⟨rfl, rfl, rfl, by decide +kernel, rfl, by decide +kernel, by decide +kernel⟩
theorem sc_around : FnScope ["program", "place", "row", "at"] ["program", "place"] (defScope s_around) := ⟨rfl, rfl, rfl, by decide +kernel, rfl, by decide +kernel, by decide +kernel⟩
theorem sc_wordat : FnScope ["program", "place", "row"] ["program", "place"] (defScope s_wordat) := ⟨rfl, rfl, rfl, by decide +kernel, rfl, by decide +kernel, by decide +kernel⟩
theorem sc_behind : FnScope ["program", "place", "row"] ["program", "place"] (defScope s_behind) := ⟨rfl, rfl, rfl, by decide +kernel, rfl, by decide +kernel, by decide +kernel⟩
theorem sc_head : FnScope ["program", "name", "one"] ["program", "name"] (defScope s_head) := ⟨rfl, rfl, rfl, by decide +kernel, rfl, by decide +kernel, by decide +kernel⟩
theorem sc_leads : FnScope ["program", "place", "word", "answers"] ["program", "place"] (defScope s_leads) := ⟨rfl, rfl, rfl, by decide +kernel, rfl, by decide +kernel, by decide +kernel⟩
/-! programs without rows in rows -/
structure Df where
  nm : Str
  ps : List Str
  rs : List Str
  ws : List Wo
def rowD (ws : List Wo) : PyData := .tuple (ws.map wD)
def defD (d : Df) : PyData := .tuple [.str d.nm, .tuple (d.ps.map .str), .tuple (d.rs.map .str), rowD d.ws]
def pgD (ds : List Df) (ws : List Wo) : PyData := .tuple [.tuple (ds.map defD), rowD ws]
def dfOf (ds : List Df) (x : Str) : Option Df := ds.find? fun d => decide (d.nm = x)
def rowOf (ds : List Df) (ws : List Wo) (x : Str) : Option (List Wo) := if x = emp then some ws else (dfOf ds x).map (·.ws)
def hdOf (ds : List Df) (x : Str) : List Str × List Str := if x = emp then ([], []) else match dfOf ds x with
  | some d => (d.ps, d.rs)
  | none => ([], [])
def flatPr (ds : List Df) (ws : List Wo) : Pr where
  d := pgD ds ws
  okp := fun pd => ∃ x n r, pd = plcD x n ∧ rowOf ds ws x = some r ∧ n ≤ r.length
  wd := fun pd => match pd with
    | .tuple [.str x, .int n] => ((rowOf ds ws x).getD [])[n.toNat]?
    | _ => none
  bh := fun pd => match pd with
    | .tuple [.str x, .int n] => .tuple [.str x, .int (n + 1)]
    | _ => pd
  go := fun pd _ => match pd with
    | .tuple [.str x, .int n] => .tuple [.str x, .int (n + 1)]
    | _ => pd
  pn := fun pd => match pd with
    | .tuple (.str x :: _) => x
    | _ => emp
  hd := hdOf ds
def flatW : Wo → Bool
  | .choose _ => false
  | .loop _ => false
  | .out _ => false
  | _ => true
def flatG (R : Pr) : Prop := ∃ ds ws, R = flatPr ds ws ∧ ∀ x r, rowOf ds ws x = some r → ∀ W ∈ r, flatW W = true
theorem fl_wd {ds : List Df} {ws r : List Wo} {x : Str} {n : Nat} (h : rowOf ds ws x = some r) : (flatPr ds ws).wd (plcD x n) = r[n]? := by
  show ((rowOf ds ws x).getD [])[n]? = _
  rw [h]; rfl
theorem fl_bh {ds : List Df} {ws : List Wo} {x : Str} {n : Nat} : (flatPr ds ws).bh (plcD x n) = plcD x (n + 1) := rfl
theorem fl_go {ds : List Df} {ws : List Wo} {x : Str} {n j : Nat} : (flatPr ds ws).go (plcD x n) j = plcD x (n + 1) := rfl
theorem fl_pn {ds : List Df} {ws : List Wo} {x : Str} {n : Nat} : (flatPr ds ws).pn (plcD x n) = x := rfl
def leadL : List Str := [Str.ofString "fault", Str.ofString "back", Str.ofString "choose", Str.ofString "loop", Str.ofString "out"]
theorem lead_k {W : Wo} (h : plainW W = true ∨ ∃ x ca cg, W = .call x ca cg) (f : flatW W = true) : ¬ kW W ∈ leadL := by
  have nf : (∀ x, W ≠ .fault x) ∧ W ≠ .back := by
    rcases h with h | ⟨x, ca, cg, rfl⟩
    · exact ⟨(fun x e => by rw [e] at h; cases h), (fun e => by rw [e] at h; cases h)⟩
    · exact ⟨(fun x e => by cases e), (fun e => by cases e)⟩
  cases W with
  | fault x => exact absurd rfl (nf.1 x)
  | back => exact absurd rfl nf.2
  | choose rs => cases f
  | loop rr => cases f
  | out n => cases f
  | take b s => exact (show ¬ Str.ofString "take" ∈ leadL by decide +kernel)
  | ask b => exact (show ¬ Str.ofString "ask" ∈ leadL by decide +kernel)
  | number b n => exact (show ¬ Str.ofString "number" ∈ leadL by decide +kernel)
  | copy b c => exact (show ¬ Str.ofString "copy" ∈ leadL by decide +kernel)
  | mix b c d => exact (show ¬ Str.ofString "mix" ∈ leadL by decide +kernel)
  | opn b c => exact (show ¬ Str.ofString "open" ∈ leadL by decide +kernel)
  | tell b => exact (show ¬ Str.ofString "tell" ∈ leadL by decide +kernel)
  | wipe b => exact (show ¬ Str.ofString "wipe" ∈ leadL by decide +kernel)
  | clear x => exact (show ¬ Str.ofString "clear" ∈ leadL by decide +kernel)
  | drop bs => exact (show ¬ Str.ofString "drop" ∈ leadL by decide +kernel)
  | risk x => exact (show ¬ Str.ofString "risk" ∈ leadL by decide +kernel)
  | call x ca cg => exact (show ¬ Str.ofString "call" ∈ leadL by decide +kernel)
theorem plc_in {K : PySem.W.Frag} {H : Hp} {v : V} {x : Str} {n : Nat} (h : Tp K H v (plcD x n)) : ∃ a, v = .ref a ∧ SqT K H a [.str x, .int n] := by
  unfold plcD at h
  cases h with
  | tup hs ha =>
    cases ha with
    | cons a1 a2 =>
      cases a1
      cases a2 with
      | cons b1 b2 =>
        cases b1; cases b2
        exact ⟨_, rfl, hs⟩
theorem pg_in {K : PySem.W.Frag} {H : Hp} {v : V} {ds : List Df} {ws : List Wo} (h : Tp K H v (pgD ds ws)) : ∃ a t xs r, v = .ref a ∧ SqT K H a [.ref t, r] ∧ SqT K H t xs ∧ TpAll K H xs (ds.map defD) ∧ Tp K H r (rowD ws) := by
  unfold pgD at h
  cases h with
  | tup hs ha =>
    cases ha with
    | cons a1 a2 =>
      cases a1 with
      | tup hs2 ha2 =>
        cases a2 with
        | cons b1 b2 =>
          cases b2
          exact ⟨_, _, _, _, rfl, hs, hs2, ha2, b1⟩
theorem df_in {K : PySem.W.Frag} {H : Hp} {v : V} {d : Df} (h : Tp K H v (defD d)) : ∃ a p r w, v = .ref a ∧ SqT K H a [.str d.nm, .ref p, .ref r, w] ∧ SqT K H p (d.ps.map V.str) ∧ SqT K H r (d.rs.map V.str) ∧ Tp K H w (rowD d.ws) := by
  unfold defD at h
  cases h with
  | tup hs ha =>
    cases ha with
    | cons a1 a2 =>
      cases a1
      cases a2 with
      | cons b1 b2 =>
        cases b2 with
        | cons c1 c2 =>
          cases c2 with
          | cons d1 d2 =>
            cases d2
            cases b1 with
            | tup hb1 hb2 =>
              cases c1 with
              | tup hc1 hc2 =>
                rw [strs_inv hb2] at hb1
                rw [strs_inv hc2] at hc1
                exact ⟨_, _, _, _, rfl, hs, hb1, hc1, d1⟩
theorem row_in {K : PySem.W.Frag} {H : Hp} {v : V} {ws : List Wo} (h : Tp K H v (rowD ws)) : ∃ a xs, v = .ref a ∧ SqT K H a xs ∧ TpAll K H xs (ws.map wD) := by
  unfold rowD at h
  cases h with
  | tup hs ha => exact ⟨_, _, rfl, hs, ha⟩
theorem rg10 : RgC 1 0 2 0 := ⟨by decide, by decide, by decide, by decide⟩
section
variable {P : Program} {w : World} {K : PySem.W.Frag} {mg : Str → Option Value} {base : Heap}
def spDefOf (K : PySem.W.Frag) : Sp := fun vs H Q _ => ∃ (p : V) (ds : List Df) (ws : List Wo) (x : Str) (d : Df), vs = [p, .str x] ∧ Tp K H p (pgD ds ws) ∧ dfOf ds x = some d ∧ ∀ u, Tp K H u (defD d) → Q u H
theorem ok_def_of {f : Addr} {fd : FuncData} {k : Nat} (F : Fun K "def_of" "def_of" s_def_of f fd) : FnOk P w K mg base CX0 (k + 1) f fd ["program", "name"] (spDefOf K) := by
  refine F.ok sc_def_of (fun vs H Q E h => ?_) (fun cdv A outer s H vs Q E hr h => ?_)
  · obtain ⟨p, ds, ws, x, d, rfl, _⟩ := h; rfl
  · obtain ⟨p, ds, ws, x, d, rfl, hp, hd, q⟩ := h
    refine ⟨_, pss_cons (ps_for PassesOwn.never rfl (pi_tup (pe_ix ix_tup (pv 0) pe_int (fun _ _ => rfl))) (pg_name (i := 2) sc_def_of.nd rfl (.inl rfl))
      (pss_one (ps_if (pt_cmpR op_eq (pe_ix ix_tup (pv 2) pe_int (fun _ _ => rfl)) (pv 1) (nomark _)) (pss_one (ps_ret (pv 2))) pss_nil))) (pss_one (ps_ret pe_non)), ?_⟩
    obtain ⟨a, t, xs, r, rfl, hs, ht, hall, _⟩ := pg_in hp
    unfold dfOf at hd
    obtain ⟨hdx, as, bs, eds, has⟩ := List.find?_eq_some_iff_append.mp hd
    have hdx : d.nm = x := of_decide_eq_true hdx
    have hlen := hall.len
    rw [List.length_map] at hlen
    refine ⟨.ref a, rfl, a, _, 0, _, rfl, rfl, hs, at0, t, rfl, ⟨xs, ht⟩, for_tup (a := t) (xs := xs) (fun i σ H2 => ∃ y, σ = [some (.ref a), some (.str x), y] ∧ H2 = H ∧ i ≤ as.length) ?_ ?_ ?_ ?_⟩
    · exact ⟨_, rfl, rfl, Nat.zero_le _⟩
    · rintro i σ H2 _ ⟨y, _, rfl, _⟩
      exact ht
    · rintro i u σ H2 hu ⟨y, rfl, rfl, hi⟩
      obtain ⟨d', hd', td⟩ := hall.get hu
      rw [List.getElem?_map] at hd'
      cases hdi : ds[i]? with
      | none => rw [hdi] at hd'; cases hd'
      | some d1 =>
      rw [hdi] at hd'
      cases hd'
      obtain ⟨o, op, or', ow, rfl, ho, _⟩ := df_in td
      refine ⟨.ref o, rfl, o, _, 0, _, rfl, rfl, ho, at0, .str x, rfl, rfl, _, rfl, ?_⟩
      rcases Nat.lt_or_ge i as.length with li | li
      · have m1 : d1 ∈ as := by
          rw [eds, List.getElem?_append_left li] at hdi
          exact List.mem_of_getElem? hdi
        have n1 : ¬ d1.nm = x := fun e => by
          have := has d1 m1
          rw [decide_eq_true e] at this
          cases this
        exact itN (fun z => n1 (V.str.inj z)) ⟨_, rfl, rfl, li⟩
      · have ei : i = as.length := Nat.le_antisymm hi li
        have e1 : d1 = d := by
          rw [eds, ei, List.getElem?_append_right (Nat.le_refl _)] at hdi
          simpa using hdi.symm
        subst e1
        exact itD (congrArg V.str hdx) ⟨_, rfl, q _ td⟩
    · rintro σ H2 ⟨y, rfl, rfl, hi⟩
      exfalso
      have : xs.length = as.length + (bs.length + 1) := by rw [hlen, eds, List.length_append, List.length_cons]
      omega
def spRowOf (K : PySem.W.Frag) : Sp := fun vs H Q _ => ∃ (p : V) (ds : List Df) (ws : List Wo) (x : Str) (r : List Wo), vs = [p, .str x] ∧ Tp K H p (pgD ds ws) ∧ rowOf ds ws x = some r ∧ ∀ u, Tp K H u (rowD r) → Q u H
theorem ok_row_of {f fD : Addr} {fd fdD : FuncData} {k : Nat} (F : Fun K "row_of" "row_of" s_row_of f fd) (CD : Cl P w K mg base k "def_of" ["program", "name"] (spDefOf K) fD fdD) : FnOk P w K mg base CX0 (k + 1) f fd ["program", "name"] (spRowOf K) := by
  refine F.ok sc_row_of (fun vs H Q E h => ?_) (fun cdv A outer s H vs Q E hr h => ?_)
  · obtain ⟨p, ds, ws, x, r, rfl, _⟩ := h; rfl
  · obtain ⟨p, ds, ws, x, r, rfl, hp, hr0, q⟩ := h
    refine ⟨_, pss_cons (ps_if (pt_cmpR op_eq (pv 1) pe_str (nomark _)) (pss_one (ps_ret (pe_ix ix_tup (pv 0) pe_int (fun _ _ => rfl)))) pss_nil)
      (pss_one (ps_ret (pe_ix ix_tup (pe_call CD.g hr (by rfl) CD.m CD.k CD.b .nil pass0 (pa_cons (pv 0) (pa_cons (pv 1) pa_nil))) pe_int (fun _ _ => rfl)))), ?_⟩
    refine ⟨.str x, rfl, rfl, _, rfl, ?_⟩
    unfold rowOf at hr0
    by_cases e : x = emp
    · rw [if_pos e] at hr0
      cases hr0
      obtain ⟨a, t, xs, r1, rfl, hs, ht, hall, tr⟩ := pg_in hp
      exact itD (congrArg V.str e) ⟨.ref a, rfl, a, _, 1, _, rfl, rfl, hs, at1, q _ tr⟩
    · rw [if_neg e] at hr0
      cases hd : dfOf ds x with
      | none => rw [hd] at hr0; cases hr0
      | some d =>
      rw [hd] at hr0
      cases hr0
      refine itN (fun z => e (V.str.inj z)) ⟨p, rfl, .str x, rfl, p, ds, ws, x, d, rfl, hp, hd, fun u tu => ?_⟩
      obtain ⟨a, a1, a2, a3, rfl, hs, _, _, tw⟩ := df_in tu
      exact ⟨a, _, 3, _, rfl, rfl, hs, at3, q _ tw⟩
def spAround (K : PySem.W.Frag) : Sp := fun vs H Q _ => ∃ (p pl : V) (ds : List Df) (ws : List Wo) (x : Str) (n : Nat) (r : List Wo), vs = [p, pl] ∧ Tp K H p (pgD ds ws) ∧ Tp K H pl (plcD x n) ∧ rowOf ds ws x = some r ∧ ∀ u, Tp K H u (rowD r) → Q u H
theorem ok_around {f fR : Addr} {fd fdR : FuncData} {k : Nat} (F : Fun K "row_around" "row_around" s_around f fd) (CR : Cl P w K mg base k "row_of" ["program", "name"] (spRowOf K) fR fdR) (m_len : mg "len" = none) (m_range : mg "range" = none) :
    FnOk P w K mg base CX0 (k + 1) f fd ["program", "place"] (spAround K) := by
  refine F.ok sc_around (fun vs H Q E h => ?_) (fun cdv A outer s H vs Q E hr h => ?_)
  · obtain ⟨p, pl, ds, ws, x, n, r, rfl, _⟩ := h; rfl
  · obtain ⟨p, pl, ds, ws, x, n, r, rfl, hp, hpl, hr0, q⟩ := h
    refine ⟨_, pss_cons (ps_set (i := 2) sc_around.nd rfl (.inl rfl) (pe_call CR.g hr (by rfl) CR.m CR.k CR.b .nil pass0 (pa_cons (pv 0) (pa_cons (pe_ix ix_tup (pv 1) pe_int (fun _ _ => rfl)) pa_nil))))
      (pss_cons (ps_for PassesOwn.never rfl (pi_range3 (by rfl) m_range (pa_cons pe_int (pa_cons (pe_op op_sub (pe_callB call_len_seq (by rfl) m_len PySem.boot_len (pa_cons (pv 1) pa_nil)) pe_int) (pa_cons pe_int pa_nil)))) (pg_name (i := 3) sc_around.nd rfl (.inl rfl)) (pss_one ps_nv))
      (pss_one (ps_ret (pv 2)))), ?_⟩
    obtain ⟨a, rfl, hA⟩ := plc_in hpl
    refine ⟨p, rfl, .ref a, rfl, a, _, 0, _, rfl, rfl, hA, at0, p, ds, ws, x, r, rfl, hp, hr0, fun u hu => ?_⟩
    refine ⟨.ref a, rfl, a, _, rfl, .inr hA, _, 2, rfl, rfl, 1, 0, 2, 0, rfl, rg10, ?_⟩
    refine for_rangeC (lo := 1) (c := 2) (n := 0) (tb := fun _ _ _ => False) (fun i σ H2 => σ = [some p, some (.ref a), some u, none] ∧ H = H2) ?_ ?_ ?_
    · exact ⟨rfl, rfl⟩
    · intro i σ H2 hi; omega
    · rintro σ H2 ⟨rfl, rfl⟩
      exact ⟨u, rfl, q u hu⟩
theorem ok_wordat {f fA : Addr} {fd fdA : FuncData} {k : Nat} (F : Fun K "word_at" "word_at" s_wordat f fd) (CA : Cl P w K mg base k "row_around" ["program", "place"] (spAround K) fA fdA) (m_len : mg "len" = none) :
    FnOk P w K mg base CX0 (k + 1) f fd ["program", "place"] (spWordAt K flatG) := by
  refine F.ok sc_wordat (fun vs H Q E h => ?_) (fun cdv A outer s H vs Q E hr h => ?_)
  · obtain ⟨p, pl, R, pd, rfl, _⟩ := h; rfl
  · obtain ⟨p, pl, R, pd, rfl, ⟨ds, ws, rfl, _⟩, hp, ⟨x, n, r, rfl, hr0, hn⟩, hpl, q⟩ := h
    refine ⟨_, pss_cons (ps_set (i := 2) sc_wordat.nd rfl (.inl rfl) (pe_call CA.g hr (by rfl) CA.m CA.k CA.b .nil pass0 (pa_cons (pv 0) (pa_cons (pv 1) pa_nil))))
      (pss_cons (ps_if (pt_cmpR op_lt (pe_ix ix_tup (pv 1) (pe_un un_neg pe_int) (fun _ _ => rfl)) (pe_callB call_len_seq (by rfl) m_len PySem.boot_len (pa_cons (pv 2) pa_nil)) (nomark _))
        (pss_one (ps_ret (pe_ix ix_tup (pv 2) (pe_ix ix_tup (pv 1) (pe_un un_neg pe_int) (fun _ _ => rfl)) (fun _ _ => rfl)))) pss_nil) (pss_one (ps_ret pe_non))), ?_⟩
    refine ⟨p, rfl, pl, rfl, p, pl, ds, ws, x, n, r, rfl, hp, hpl, hr0, fun u hu => ?_⟩
    obtain ⟨a, rfl, hA⟩ := plc_in hpl
    obtain ⟨b, xs, rfl, hs, ha⟩ := row_in hu
    have hl := ha.len
    rw [List.length_map] at hl
    rw [fl_wd hr0] at q
    have hat : atI [V.str x, .int (n : Nat)] (-1) = some (.int (n : Nat)) := rfl
    refine ⟨.ref a, rfl, 1, rfl, a, _, -1, .int (n : Nat), rfl, rfl, hA, hat, .ref b, rfl, b, xs, rfl, .inr hs, _, _, rfl, rfl, _, rfl, ite2 (fun e => ?_) (fun e => ?_)⟩
    · have hk : n < xs.length := by have := of_decide_eq_true e; omega
      obtain ⟨d1, hd1, td1⟩ := ha.get (List.getElem?_eq_getElem hk)
      refine ⟨.ref b, rfl, .ref a, rfl, 1, rfl, a, _, -1, .int (n : Nat), rfl, rfl, hA, hat, b, xs, _, xs[n], rfl, rfl, hs, atN (List.getElem?_eq_getElem hk), q _ ?_⟩
      rw [List.getElem?_map] at hd1
      cases hrn : r[n]? with
      | none => rw [hrn] at hd1; cases hd1
      | some W => rw [hrn] at hd1; cases hd1; exact td1
    · have hk : xs.length ≤ n := by
        have : ¬ ((n : Int) < (xs.length : Int)) := fun z => e (decide_eq_true z)
        omega
      refine q _ ?_
      rw [List.getElem?_eq_none (by rw [← hl]; exact hk)]
      exact .non
theorem ok_behind {f fA : Addr} {fd fdA : FuncData} {k : Nat} (F : Fun K "behind" "behind" s_behind f fd) (CA : Cl P w K mg base k "row_around" ["program", "place"] (spAround K) fA fdA) (m_len : mg "len" = none) :
    FnOk P w K mg base CX0 (k + 1) f fd ["program", "place"] (spBehind K flatG) := by
  refine F.ok sc_behind (fun vs H Q E h => ?_) (fun cdv A outer s H vs Q E hr h => ?_)
  · obtain ⟨p, pl, R, pd, W, rfl, _⟩ := h; rfl
  · obtain ⟨p, pl, R, pd, W, rfl, ⟨ds, ws, rfl, _⟩, hp, ⟨x, n, r, rfl, hr0, hn⟩, hpl, hW, q⟩ := h
    rw [fl_wd hr0] at hW
    have hn : n < r.length := (List.getElem?_eq_some_iff.mp hW).1
    have q : ∀ H' u, Ex [] H H' → Tp K H' u (plcD x (n + 1)) → Q u H' := q
    refine ⟨_, pss_one (ps_while PassesOwn.never (pt_val pe_bl)
      (pss_cons (ps_set (i := 2) sc_behind.nd rfl (.inl rfl) (pe_call CA.g hr (by rfl) CA.m CA.k CA.b .nil pass0 (pa_cons (pv 0) (pa_cons (pv 1) pa_nil))))
      (pss_cons (ps_if (pt_cmpR op_lt (pe_op op_add (pe_ix ix_tup (pv 1) (pe_un un_neg pe_int) (fun _ _ => rfl)) pe_int) (pe_callB call_len_seq (by rfl) m_len PySem.boot_len (pa_cons (pv 2) pa_nil)) (nomark _))
        (pss_one (ps_ret (pe_op op_catA (pe_slice sl_tupA (pv 1) po_none (po_some (pe_un un_neg pe_int))) (pe_tup (pa_cons (pe_op op_add (pe_ix ix_tup (pv 1) (pe_un un_neg pe_int) (fun _ _ => rfl)) pe_int) pa_nil))))) pss_nil)
      (pss_cons (ps_if (pt_cmpR op_eq (pe_callB call_len_seq (by rfl) m_len PySem.boot_len (pa_cons (pv 1) pa_nil)) pe_int (nomark _))
        (pss_one (ps_ret (pe_tup (pa_cons (pe_ix ix_tup (pv 1) pe_int (fun _ _ => rfl)) (pa_cons (pe_callB call_len_seq (by rfl) m_len PySem.boot_len (pa_cons (pv 2) pa_nil)) pa_nil))))) pss_nil)
      (pss_cons ps_nv (pss_one ps_nv)))))), ?_⟩
    refine ⟨fun M σ H2 => σ = [some p, some pl, none] ∧ H2 = H, ⟨0, rfl, rfl⟩, ?_⟩
    rintro M σ H2 ⟨rfl, eH⟩
    rw [eH]
    clear eH H2
    refine ⟨true, rfl, iteT ⟨fun σ' H' => False, fun _ _ z => z.elim, ?_⟩⟩
    refine ⟨p, rfl, pl, rfl, p, pl, ds, ws, x, n, r, rfl, hp, hpl, hr0, fun u hu => ?_⟩
    obtain ⟨a, rfl, hA⟩ := plc_in hpl
    obtain ⟨b, xs, rfl, hs, ha⟩ := row_in hu
    have hl := ha.len
    rw [List.length_map] at hl
    have hat : atI [V.str x, .int (n : Nat)] (-1) = some (.int (n : Nat)) := rfl
    refine ⟨.ref a, rfl, 1, rfl, a, _, -1, .int (n : Nat), rfl, rfl, hA, hat, _, 1, rfl, rfl, .ref b, rfl, b, xs, rfl, .inr hs, _, _, rfl, rfl, _, rfl, ite2 (fun e => ?_) (fun e => ?_)⟩
    · refine ⟨.ref a, rfl, 1, rfl, -1, rfl, a, _, rfl, hA, fun z => ?_, fun _ B nB => ?_⟩
      · exact absurd z.2 (show ¬ (1 : Nat) = 2 by decide)
      have ec : cutV [V.str x, .int (n : Nat)] none (some (-1)) = [.str x] := rfl
      rw [ec]
      have wB : Ex [] H (upd H B (.tup [.str x])) := .new nB
      refine ⟨.ref a, rfl, 1, rfl, a, _, -1, .int (n : Nat), rfl, rfl, wB.seqT hA, hat, _, 1, rfl, rfl, (by show 1 ≤ sizeLine; decide), fun O nO => ?_⟩
      have wO : Ex [] (upd H B (.tup [.str x])) (upd (upd H B (.tup [.str x])) O (.tup [.int ((n : Nat) + 1)])) := .new nO
      refine tp_cat (K := K) (ds := [.str x]) (es := [.int ((n : Nat) + 1)]) (.of (wO.tup upd_same)) (.of upd_same) (.cons (.str _) .nil) (.cons (.int _) .nil) (by simp) fun p3 H3 zs x3 hs3 ht3 => ?_
      exact q _ _ ((wB.trans wO).trans x3) (.tup hs3 ht3)
    · have hk : n + 1 = r.length := by
        have : ¬ ((n : Int) + 1 < (xs.length : Int)) := fun z => e (decide_eq_true z)
        omega
      refine ⟨.ref a, rfl, a, _, rfl, .inr hA, rfl, _, rfl, itD rfl ?_⟩
      refine ⟨.ref a, rfl, a, _, 0, .str x, rfl, rfl, hA, at0, .ref b, rfl, b, xs, rfl, .inr hs, (by show 2 ≤ sizeLine; decide), fun T nT => q _ _ (.new nT) (plc_mk (.of ?_))⟩
      rw [upd_same, hl, hk]
theorem ok_head {f fD : Addr} {fd fdD : FuncData} {k : Nat} (F : Fun K "head_of" "head_of" s_head f fd) (CD : Cl P w K mg base k "def_of" ["program", "name"] (spDefOf K) fD fdD) : FnOk P w K mg base CX0 (k + 1) f fd ["program", "name"] (spHead K flatG) := by
  refine F.ok sc_head (fun vs H Q E h => ?_) (fun cdv A outer s H vs Q E hr h => ?_)
  · obtain ⟨p, R, pd, rfl, _⟩ := h; rfl
  · obtain ⟨p, R, pd, rfl, ⟨ds, ws, rfl, _⟩, hp, ⟨x, n, r, rfl, hr0, hn⟩, q⟩ := h
    refine ⟨_, (pss_cons (ps_if (pt_cmpR op_eq (pv 1) pe_str (nomark _)) (pss_one (ps_ret (pe_tup (pa_cons (pe_tup pa_nil) (pa_cons (pe_tup pa_nil) pa_nil))))) pss_nil)
      (pss_cons (ps_set (i := 2) sc_head.nd rfl (.inl rfl) (pe_call CD.g hr (by rfl) CD.m CD.k CD.b .nil pass0 (pa_cons (pv 0) (pa_cons (pv 1) pa_nil)))) (pss_one (ps_ret (pe_tup (pa_cons (pe_ix ix_tup (pv 2) pe_int (fun _ _ => rfl)) (pa_cons (pe_ix ix_tup (pv 2) pe_int (fun _ _ => rfl)) pa_nil))))))), ?_⟩
    rw [fl_pn] at q
    have q : ∀ H' t a b, Ex [] H H' → SqT K H' t [.ref a, .ref b] → SqT K H' a ((hdOf ds x).1.map V.str) → SqT K H' b ((hdOf ds x).2.map V.str) → Q (.ref t) H' := q
    refine ⟨.str x, rfl, rfl, _, rfl, ?_⟩
    unfold rowOf at hr0
    by_cases e : x = emp
    · have eh : hdOf ds x = ([], []) := by unfold hdOf; rw [if_pos e]
      rw [eh] at q
      refine itD (congrArg V.str e) ⟨l0, fun a na => ⟨l0, fun b nb => ⟨l2, fun t nt => ?_⟩⟩⟩
      have xa : Ex [] H (upd H a (.tup [])) := .new na
      have xb : Ex [] (upd H a (.tup [])) (upd (upd H a (.tup [])) b (.tup [])) := .new nb
      have xt : Ex [] (upd (upd H a (.tup [])) b (.tup [])) (upd (upd (upd H a (.tup [])) b (.tup [])) t (.tup [.ref a, .ref b])) := .new nt
      exact q _ t a b ((xa.trans xb).trans xt) (.of upd_same) (.of (xt.tup (xb.tup upd_same))) (.of (xt.tup upd_same))
    · rw [if_neg e] at hr0
      cases hd : dfOf ds x with
      | none => rw [hd] at hr0; cases hr0
      | some d =>
      have eh : hdOf ds x = (d.ps, d.rs) := by unfold hdOf; rw [if_neg e, hd]
      rw [eh] at q
      refine itN (fun z => e (V.str.inj z)) ⟨p, rfl, .str x, rfl, p, ds, ws, x, d, rfl, hp, hd, fun u tu => ?_⟩
      obtain ⟨a, a1, a2, a3, rfl, hs, h1, h2, _⟩ := df_in tu
      refine ⟨.ref a, rfl, a, _, 1, _, rfl, rfl, hs, at1, .ref a, rfl, a, _, 2, _, rfl, rfl, hs, at2, l2, fun t nt => ?_⟩
      have xt : Ex [] H (upd H t (.tup [.ref a1, .ref a2])) := .new nt
      exact q _ t a1 a2 xt (.of upd_same) (xt.seqT h1) (xt.seqT h2)
theorem ok_leads {f f1 f2 f3 : Addr} {fd d1 d2 d3 : FuncData} {k : Nat} (F : Fun K "leads_of" "leads_of" s_leads f fd) (C_word_at : Cl P w K mg base k "word_at" ["program", "place"] (spWordAt K flatG) f1 d1) (C_choices_of : Cl P w K mg base k "choices_of" ["word"] (spChoices K) f2 d2)
    (C_behind : Cl P w K mg base k "behind" ["program", "place"] (spBehind K flatG) f3 d3) : FnOk P w K mg base CX0 (k + 1) f fd ["program", "place"] (spLeads K flatG) := by
  refine F.ok sc_leads (fun vs H Q E h => ?_) (fun cdv A outer s H vs Q E hr h => ?_)
  · obtain ⟨p, pl, R, pd, W, rfl, _⟩ := h; rfl
  · obtain ⟨p, pl, R, pd, W, rfl, hG, hp, hok, hpl, hW, pW, q⟩ := h
    refine ⟨_, (pss_cons (ps_set (i := 2) sc_leads.nd rfl (.inl rfl) (pe_call C_word_at.g hr (by rfl) C_word_at.m C_word_at.k C_word_at.b .nil pass0 (pa_cons (pv 0) (pa_cons (pv 1) pa_nil))))
      (pss_cons (ps_if (PW.pt (pw_or (pt_cmpR op_isN (pv 2) pe_non (nomark _)) (pw_or1 (pt_cmpR op_in_seq (pe_ix ix_tup (pv 2) pe_int (fun _ _ => rfl)) (pe_tup (pa_cons pe_str (pa_cons pe_str pa_nil))) rfl)))) (pss_one ps_nv) pss_nil)
      (pss_cons (ps_if (pt_cmpR op_eq (pe_ix ix_tup (pv 2) pe_int (fun _ _ => rfl)) pe_str (nomark _)) (pss_one ps_nv) pss_nil)
      (pss_cons (ps_if (pt_cmpR op_eq (pe_ix ix_tup (pv 2) pe_int (fun _ _ => rfl)) pe_str (nomark _)) (pss_one ps_nv) pss_nil)
      (pss_cons (ps_if (pt_cmpR op_eq (pe_ix ix_tup (pv 2) pe_int (fun _ _ => rfl)) pe_str (nomark _)) (pss_one ps_nv) pss_nil)
      (pss_cons (ps_set (i := 3) sc_leads.nd rfl (.inl rfl) (pe_ifExp (pt_cmpR op_eq (pe_call C_choices_of.g hr (by rfl) C_choices_of.m C_choices_of.k C_choices_of.b .nil pass0 (pa_cons (pv 2) pa_nil)) pe_int (nomark _)) (pe_tup pa_nil) (pe_tup (pa_cons pe_int pa_nil))))
      (pss_one (ps_ret (pe_tup (pa_cons (pe_tup (pa_cons (pv 3) (pa_cons (pe_call C_behind.g hr (by rfl) C_behind.m C_behind.k C_behind.b .nil pass0 (pa_cons (pv 0) (pa_cons (pv 1) pa_nil))) pa_nil))) pa_nil)))))))))), ?_⟩
    refine ⟨p, rfl, pl, rfl, p, pl, R, pd, rfl, hG, hp, hok, hpl, fun u hu => ?_⟩
    rw [hW] at hu
    have hu : Tp K H u (wD W) := hu
    obtain ⟨a, r, rfl, hs, _⟩ := word_in hu
    have fW : flatW W = true := by
      obtain ⟨ds, ws, rfl, hf⟩ := hG
      obtain ⟨x, n, r, rfl, hr0, hn⟩ := hok
      rw [fl_wd hr0] at hW
      exact hf x r hr0 W (List.mem_of_getElem? hW)
    have ego : ∀ j, R.go pd j = R.bh pd := by
      obtain ⟨ds, ws, rfl, _⟩ := hG
      intro j; rfl
    have nl : nLead W = 1 := by cases W <;> first | rfl | cases fW
    have nk := lead_k (.inl pW) fW
    have n1 : ¬ kW W = Str.ofString "fault" := fun z => nk (by rw [z]; decide +kernel)
    have n2 : ¬ kW W = Str.ofString "back" := fun z => nk (by rw [z]; decide +kernel)
    have n3 : ¬ kW W = Str.ofString "choose" := fun z => nk (by rw [z]; decide +kernel)
    have n4 : ¬ kW W = Str.ofString "loop" := fun z => nk (by rw [z]; decide +kernel)
    have n5 : ¬ kW W = Str.ofString "out" := fun z => nk (by rw [z]; decide +kernel)
    refine ⟨.ref a, rfl, rfl, _, rfl, itN (by simp) ⟨.ref a, rfl, a, _, 0, _, rfl, rfl, hs, at0, l2, fun T nT => ?_⟩⟩
    have xT : Ex [] H (upd H T (.tup ([Str.ofString "fault", Str.ofString "back"].map V.str))) := .new nT
    refine ⟨T, [Str.ofString "fault", Str.ofString "back"].map V.str, rfl, .inr (.of upd_same), rfl, strs_flat _, _, rfl, ?_⟩
    show if inV _ _ = true then _ else _
    rw [inV_strs, decide_eq_false (by simp [n1, n2]), if_neg (by decide)]
    have hs2 := xT.seqT hs
    refine ⟨.ref a, rfl, a, _, 0, _, rfl, rfl, hs2, at0, rfl, _, rfl, sN n3 ⟨.ref a, rfl, a, _, 0, _, rfl, rfl, hs2, at0, rfl, _, rfl, sN n4 ⟨.ref a, rfl, a, _, 0, _, rfl, rfl, hs2, at0, rfl, _, rfl, sN n5 ?_⟩⟩⟩
    have fin : ∀ (Z : Addr) (zs : List V) (H1 : Hp), Ex [] H H1 → spBehind K flatG [p, pl] H1 (fun v H2 => 2 ≤ sizeLine ∧ ∀ o, H2 o = none → 1 ≤ sizeLine ∧ ∀ t, (upd H2 o (.tup [.ref Z, v])) t = none → Q (.ref t) (upd (upd H2 o (.tup [.ref Z, v])) t (.tup [.ref o]))) (E0 : XK) := fun Z zs H1 x1 => by
      refine ⟨p, pl, R, pd, W, rfl, hG, hp.ex x1, hok, hpl.ex x1, hW, fun H2 v x2 tv => ⟨l2, fun o no => ⟨l1, fun t nt => ?_⟩⟩⟩
      have xo : Ex [] H2 (upd H2 o (.tup [.ref Z, v])) := .new no
      have xt : Ex [] (upd H2 o (.tup [.ref Z, v])) (upd (upd H2 o (.tup [.ref Z, v])) t (.tup [.ref o])) := .new nt
      refine q _ t [.ref o] ((x1.trans x2).trans (xo.trans xt)) (.of upd_same) fun j hj => ?_
      rw [nl] at hj
      obtain rfl : j = 0 := by omega
      refine ⟨o, .ref Z, v, rfl, .of (xt.tup upd_same), ?_⟩
      rw [ego]
      exact (tv.ex xo).ex xt
    refine ⟨.ref a, rfl, .ref a, W, rfl, hu.ex xT, rfl, _, rfl, ite2 (fun e => ?_) fun e => ?_⟩
    · refine ⟨l0, fun Z nZ => ⟨.ref Z, rfl, p, rfl, pl, rfl, ?_⟩⟩
      exact fin Z [] _ (xT.trans (.new nZ))
    · refine ⟨l1, fun Z nZ => ⟨.ref Z, rfl, p, rfl, pl, rfl, ?_⟩⟩
      exact fin Z [] _ (xT.trans (.new nZ))
end
end K13

set_option maxHeartbeats 4000000
namespace Kk
open PySem PySem.Spec PyProof.Rows L2
theorem pg_tupK {X : Cx} {K : PySem.W.Frag} {es : List Expr} {k : Nat} {t : TGs} {n : Nat} {pos : Pos} (hK : X.K = K) (hc : X.calm = true) (h : PGs X es t) (hn : (assignEach es X.env).length = n := by rfl) (hst : (assignEach es X.env).findIdx? (·.1) = none := by rfl) :
    PG X (.Tuple es k pos) (gTup K n t) := by subst hK; exact pg_tup hc h hn hst
theorem tyes_if {σ : L2.St} {H : Hp} {N tb : Hp → Prop} (h : tb H) : tYes σ H (fun b H3 => if b = true then tb H3 else N H3) := by
  show (if true = true then tb H else N H)
  rw [if_pos rfl]; exact h
theorem cut_to {xs : List V} (k : Nat) : cutV xs none (some (k : Int)) = xs.take k := by
  unfold cutV
  rw [HT.sIx_none, HT.sIx_nat, List.drop_zero, Nat.sub_zero]
  by_cases h : k ≤ xs.length
  · rw [Nat.min_eq_left h]
  · rw [Nat.min_eq_right (by omega), List.take_of_length_le (Nat.le_refl _), List.take_of_length_le (by omega)]
theorem cut_fr {xs : List V} (k : Nat) : cutV xs (some (k : Int)) none = xs.drop k := by
  unfold cutV
  rw [HT.sIx_none, HT.sIx_nat]
  by_cases h : k ≤ xs.length
  · rw [Nat.min_eq_left h, List.take_of_length_le (by rw [List.length_drop]; exact Nat.le_refl _)]
  · rw [Nat.min_eq_right (by omega), List.drop_of_length_le (Nat.le_refl _), List.drop_of_length_le (by omega), List.take_nil]
theorem cut_ft {xs : List V} (i j : Nat) (h : i ≤ j) (l : j ≤ xs.length) : cutV xs (some (i : Int)) (some (j : Int)) = (xs.drop i).take (j - i) := by
  unfold cutV
  rw [HT.sIx_nat, HT.sIx_nat, Nat.min_eq_left l, Nat.min_eq_left (show i ≤ xs.length by omega)]
theorem ixN_of {n : Nat} {i : Int} (h0 : 0 ≤ i) (h1 : i < n) : ixN n i = some i.toNat := by
  unfold ixN
  rw [if_pos h0, if_pos h1]
theorem ixN0 {n : Nat} (h : 0 < n) : ixN n 0 = some 0 := ixN_of (Int.le_refl _) (by omega)
theorem mem_at3 {xs : List V} {v : Int} (h0 : 0 ≤ v) (h1 : v < xs.length) : ∃ x, x ∈ xs ∧ atI xs v = some x ∧ xs[v.toNat]? = some x := by
  have l : v.toNat < xs.length := by omega
  refine ⟨xs[v.toNat], List.getElem_mem l, ?_, List.getElem?_eq_getElem l⟩
  have := atI_nat (List.getElem?_eq_getElem l)
  rwa [Int.toNat_of_nonneg h0] at this
end Kk
namespace K13
open PySem PySem.Spec PyProof.Rows L2 Kk RZ
abbrev s_deck : Stmt := topS 39
abbrev n_deck : List Str := ["_law_script", "_law_cells", "_law_k", "_law_cell"]
theorem sc_deck : FnScope n_deck ["_law_script"] (defScope s_deck) := ⟨rfl, rfl, rfl, by decide +kernel, rfl, by decide +kernel, by decide +kernel⟩
abbrev s_draw : Stmt := topS 40
theorem sc_draw : FnScope ["_law_deck_here", "_law_most", "_law_cell", "_law_number"] ["_law_deck_here", "_law_most"] (defScope s_draw) := ⟨rfl, rfl, rfl, by decide +kernel, rfl, by decide +kernel, by decide +kernel⟩
abbrev s_some : Stmt := topS 41
theorem sc_some : FnScope ["_law_deck_here", "_law_few", "_law_most"] ["_law_deck_here", "_law_few", "_law_most"] (defScope s_some) := ⟨rfl, rfl, rfl, by decide +kernel, rfl, by decide +kernel, by decide +kernel⟩
/-- the numbers that are drawn from -/
def Deck (H : Hp) (d : Addr) : Prop := ∃ (c s : Int) (zs : List Int), H d = some (.lst (.int c :: .int s :: zs.map V.int)) ∧ zs.length ≤ 63
theorem Deck.ex {H H' : Hp} {d : Addr} {xs : List Addr} (h : Deck H d) (e : Ex xs H H') (m : d ∉ xs) : Deck H' d := by
  obtain ⟨c, s, zs, h1, h2⟩ := h
  exact ⟨c, s, zs, e.lst h1 m, h2⟩
section
variable {P : Program} {w : World} {K : PySem.W.Frag} {mg : Str → Option Value} {base : Heap}
def spDeck (K : PySem.W.Frag) : Sp := fun vs H Q _ => ∃ (s : Addr) (ns : List Int), vs = [.ref s] ∧ SqL K H s (ns.map V.int) ∧ ∀ H' p, H p = none → Ex [] H H' → Deck H' p → Q (.ref p) H'
theorem ok_deck {f : Addr} {fd : FuncData} {k : Nat} (F : Fun K "_law_deck" "_law_deck" s_deck f fd) (m_list : mg "list" = none) (m_sum : mg "sum" = none) (m_enumerate : mg "enumerate" = none) : FnOk P w K mg base CX0 (k + 1) f fd ["_law_script"] (spDeck K) := by
  refine F.ok sc_deck (fun vs H Q E h => ?_) (fun cdv A outer s H vs Q E hr h => ?_)
  · obtain ⟨s, ns, rfl, _⟩ := h; rfl
  · obtain ⟨s, ns, rfl, hS, q⟩ := h
    refine ⟨_, pss_cons (ps_set (i := 1) sc_deck.nd rfl (.inl rfl) (pe_callTy call_list_of (by rfl) m_list (by decide +kernel) (pa_cons (pe_slice sl_list (pv 0) po_none (po_some pe_int)) pa_nil)))
      (pss_one (ps_ret (pe_op op_cat (pe_lst (pa_cons pe_int (pa_cons (pe_op op_add pe_int (pe_op op_mod (pe_callB (cr_sum rfl) (by rfl) m_sum (by decide +kernel) (pa_cons (pe_lc (own := [("_law_k", 2), ("_law_cell", 3)]) (g := gTup K 2 (gCons (gName 2) (gCons (gName 3) gNil))) (tt := tYes) rfl sc_deck.nd (pi_enum (by rfl) m_enumerate (pa_cons (pv 1) pa_nil))
          (blkOk_by (N := n_deck) (sc := defScope s_deck) (by decide +kernel)) (fun _ _ _ _ _ => pg_tupK (K := K) rfl rfl (pgs_cons (pg_name (i := 2) sc_deck.nd rfl (Or.inl rfl)) (pgs_cons (pg_name (i := 3) sc_deck.nd rfl (Or.inl rfl)) pgs_nil))) (fun _ _ _ _ _ => pts_nil)
          (fun _ _ _ _ _ => pe_op op_mul (pe_op op_mod (pv 3) pe_int) (pe_op op_add (pv 2) pe_int))) pa_nil)) pe_int)) pa_nil))) (pe_revL (pv 1))))), ?_⟩
    refine ⟨.ref s, rfl, 63, rfl, s, _, rfl, hS, fun p1 n1 => ?_⟩
    have e1 : cutV (ns.map V.int) none (some 63) = (ns.take 63).map V.int := by
      rw [show (63 : Int) = ((63 : Nat) : Int) from rfl, cut_to, List.map_take]
    rw [e1]
    have x1 : Ex [] H (upd H p1 (.lst ((ns.take 63).map V.int))) := .new n1
    refine ⟨p1, _, rfl, .inl (.of upd_same), fun p2 n2 => ?_⟩
    have x2 := x1.trans (Ex.new n2 (xs := []) (o := .lst ((ns.take 63).map V.int)))
    have h2 : (upd (upd H p1 (.lst ((ns.take 63).map V.int))) p2 (.lst ((ns.take 63).map V.int))) p2 = some (.lst ((ns.take 63).map V.int)) := upd_same
    generalize upd (upd H p1 (.lst ((ns.take 63).map V.int))) p2 (.lst ((ns.take 63).map V.int)) = H2 at x2 h2 ⊢
    have lz : (ns.take 63).length ≤ 63 := by rw [List.length_take]; exact Nat.min_le_left _ _
    generalize ns.take 63 = zs at h2 lz
    refine ⟨.ref p2, rfl, p2, _, rfl, .of h2, fun D nD => ?_⟩
    have pD : p2 ≠ D := fun z => by rw [← z, h2] at nD; cases nD
    refine lc_it (walk_enum (K := K) (a := p2) (xs := zs.map V.int)) (fun j H7 => ∃ ss : List Int, H7 D = some (.lst (ss.map V.int)) ∧ ss.length ≤ j ∧ Ex [D] H2 H7) ⟨[], upd_same, Nat.le_refl _, .new nD⟩ ?_ ?_ ?_
    · rintro j H7 _ ⟨ss, _, _, x7⟩
      exact .of (x7.lst h2 (by simpa using pD))
    · rintro j y H7 H8 hj ⟨ss, hss, ls, x7⟩ ⟨TQ, y1', y2', rfl, nTQ, rfl, hy1, hy2⟩
      cases hy1
      have hy2 : (zs.map V.int)[j]? = some y2' := hy2
      rw [List.getElem?_map] at hy2
      cases hzj : zs[j]? with
      | none => rw [hzj] at hy2; cases hy2
      | some z =>
        rw [hzj] at hy2
        cases hy2
        have wQ : Ex [] H7 (upd H7 TQ (.tup [.int (j : Nat), .int z])) := .new nTQ
        refine ⟨TQ, _, rfl, .of upd_same, rfl, _, _, rfl, _, _, rfl, rfl, rfl, tyes_if ?_⟩
        rw [List.length_map] at hj
        refine ⟨.int z, rfl, z, 1000003, rfl, rfl, (by show (0 : Int) < 1000003; decide), .int (j : Nat), rfl, j, 1, rfl, rfl, _, _, rfl, rfl, .inr ⟨by omega, by omega⟩, ss.map V.int, wQ.lst hss, by rw [List.length_map, sizeLine_eq]; omega, ss ++ [z % 1000003 * ((j : Int) + 1)], ?_, by rw [List.length_append, List.length_singleton]; omega, ?_⟩
        · rw [upd_same, List.map_append]; rfl
        · exact (x7.trans (wQ.mono (by simp))).trans (.put (wQ.lst hss) nt_lst (by simp))
    · rintro H7 ⟨ss, hss, ls, x7⟩
      have x27 : Ex [] H H7 := Ex.own (x2.f _ nD) x2 x7
      refine ⟨D, ss, rfl, .of hss, _, 2147483629, rfl, rfl, (by show (0 : Int) < 2147483629; decide), 7, _, rfl, rfl, (by show 2 ≤ sizeLine; decide), fun p3 n3 => ?_⟩
      have x3 : Ex [] H7 (upd H7 p3 (.lst [.int 0, .int (7 + ss.sum % 2147483629)])) := .new n3
      have h27 := x3.lst (x7.lst h2 (by simpa using pD))
      refine ⟨.ref p2, rfl, p2, _, rfl, .of h27, fun p4 n4 => ?_⟩
      have x4 : Ex [] (upd H7 p3 (.lst [.int 0, .int (7 + ss.sum % 2147483629)])) (upd (upd H7 p3 (.lst [.int 0, .int (7 + ss.sum % 2147483629)])) p4 (.lst (zs.map V.int).reverse)) := .new n4
      refine ⟨p3, p4, _, _, rfl, rfl, x4.lst upd_same, upd_same, ?_, fun p5 n5 => ?_⟩
      · rw [List.length_reverse, List.length_map, sizeLine_eq]
        show 2 + zs.length ≤ _
        omega
      · refine q _ p5 (x27.f _ (x3.f _ (x4.f _ n5))) (x27.trans ((x3.trans x4).trans (.new n5))) ⟨0, 7 + ss.sum % 2147483629, zs.reverse, ?_, by rw [List.length_reverse]; exact lz⟩
        rw [upd_same, ← List.map_reverse]; rfl
def spDraw : Sp := fun vs H Q _ => ∃ (d : Addr) (m : Int), vs = [.ref d, .int m] ∧ Deck H d ∧ 0 < m ∧ m < 1000000 ∧ ∀ H' v, 0 ≤ v → v < m → Ex [d] H H' → Deck H' d → Q (.int v) H'
theorem ok_draw {f : Addr} {fd : FuncData} {k : Nat} (F : Fun K "_law_draw" "_law_draw" s_draw f fd) (m_len : mg "len" = none) : FnOk P w K mg base CX0 (k + 1) f fd ["_law_deck_here", "_law_most"] spDraw := by
  refine F.ok sc_draw (fun vs H Q E h => ?_) (fun cdv A outer s H vs Q E hr h => ?_)
  · obtain ⟨d, m, rfl, _⟩ := h; rfl
  · obtain ⟨d, m, rfl, ⟨c, s0, zs, hd, lz⟩, hm, hm2, q⟩ := h
    refine ⟨_, (pss_cons (ps_asg (pe_op op_add (pe_ix ix_list (pv 0) pe_int (fun _ _ => rfl)) pe_int) (pg_sub (pv 0) pe_int set_list))
      (pss_cons (ps_set (i := 2) sc_draw.nd rfl (.inl rfl) (pe_op op_add (pe_ix ix_list (pv 0) pe_int (fun _ _ => rfl)) (pe_op op_mul pe_int (pe_ix ix_list (pv 0) pe_int (fun _ _ => rfl)))))
      (pss_cons (ps_if (pt_cmpR op_gt (pe_callB call_len_seq (by rfl) m_len PySem.boot_len (pa_cons (pv 0) pa_nil)) pe_int (nomark _)) (pss_cons (ps_set (i := 2) sc_draw.nd rfl (.inl rfl) (pe_bm0 PySem.F.plainAttrs_list PySem.F.slot_list_pop PySem.F.type_list_pop mt_pop (pv 0)))
      (pss_one (ps_if (pt_cmpR op_ge (pv 2) (pe_op op_pow pe_int pe_int) (nomark _)) (pss_cons (ps_expr (pe_bm PySem.F.plainAttrs_list PySem.F.slot_list_append PySem.F.type_list_append mt_append (pv 0) (pa_cons (pe_op op_fdiv (pv 2) (pv 1)) pa_nil)))
      (pss_one (ps_ret (pe_op op_mod (pv 2) (pv 1))))) pss_nil))) pss_nil)
      (pss_cons (ps_set (i := 3) sc_draw.nd rfl (.inl rfl) (pe_op op_mod (pe_op op_mul (pe_op op_add (pe_op op_mod (pv 2) pe_int) (pe_op op_mul pe_int (pe_ix ix_list (pv 0) pe_int (fun _ _ => rfl)))) pe_int) pe_int))
      (pss_cons (ps_set (i := 3) sc_draw.nd rfl (.inl rfl) (pe_op op_mod (pe_op op_add (pe_op op_add (pe_op op_mul (pv 3) (pv 3)) (pe_op op_mul pe_int (pv 3))) (pe_ix ix_list (pv 0) pe_int (fun _ _ => rfl))) pe_int))
      (pss_one (ps_ret (pe_op op_mod (pe_op op_fdiv (pv 3) pe_int) (pv 1))))))))), ?_⟩
    refine ⟨.ref d, rfl, d, _, 0, .int c, rfl, rfl, .of hd, at0, c, 1, rfl, rfl, .ref d, rfl, d, _, 0, 0, rfl, rfl, hd, ixN0 (Nat.succ_pos _), ?_⟩
    have x1 : Ex [d] H (upd H d (.lst (.int (c + 1) :: .int s0 :: zs.map V.int))) := .put hd nt_lst (by simp)
    have h1 : (upd H d (.lst (.int (c + 1) :: .int s0 :: zs.map V.int))) d = some (.lst (.int (c + 1) :: .int s0 :: zs.map V.int)) := upd_same
    show _
    generalize hH1 : upd H d (.lst (.int (c + 1) :: .int s0 :: zs.map V.int)) = H1 at x1 h1
    have hH1' : upd H d (.lst (List.set (.int c :: .int s0 :: zs.map V.int) 0 (.int (c + 1)))) = H1 := hH1
    rw [hH1']
    clear hH1 hH1'
    refine ⟨.ref d, rfl, d, _, 1, .int s0, rfl, rfl, .of h1, at1, .ref d, rfl, d, _, 0, .int (c + 1), rfl, rfl, .of h1, at0, 104729, c + 1, rfl, rfl, .inl ⟨by decide, by decide⟩, s0, _, rfl, rfl, ?_⟩
    -- the last part, by any cell
    have fin : ∀ (H2 : Hp) (zs2 : List Int) (cell : Int), Ex [d] H H2 → H2 d = some (.lst (.int (c + 1) :: .int s0 :: zs2.map V.int)) → zs2.length ≤ 63 → ∀ v : Int, 0 ≤ v → v < m → Q (.int v) H2 := fun H2 zs2 cell x2 h2 l2 v v0 v1 => q H2 v v0 v1 x2 ⟨_, _, _, h2, l2⟩
    have num : ∀ (H2 : Hp) (zs2 : List Int) (cell : Int), Ex [d] H H2 → H2 d = some (.lst (.int (c + 1) :: .int s0 :: zs2.map V.int)) → zs2.length ≤ 63 →
        ((cell % 2147483629 + 7919 * (c + 1)) * 48271 % 2147483647 * ((cell % 2147483629 + 7919 * (c + 1)) * 48271 % 2147483647) + 69621 * ((cell % 2147483629 + 7919 * (c + 1)) * 48271 % 2147483647) + (c + 1)) % 2147483587 / 64 % m = ((cell % 2147483629 + 7919 * (c + 1)) * 48271 % 2147483647 * ((cell % 2147483629 + 7919 * (c + 1)) * 48271 % 2147483647) + 69621 * ((cell % 2147483629 + 7919 * (c + 1)) * 48271 % 2147483647) + (c + 1)) % 2147483587 / 64 % m → Q (.int (((cell % 2147483629 + 7919 * (c + 1)) * 48271 % 2147483647 * ((cell % 2147483629 + 7919 * (c + 1)) * 48271 % 2147483647) + 69621 * ((cell % 2147483629 + 7919 * (c + 1)) * 48271 % 2147483647) + (c + 1)) % 2147483587 / 64 % m)) H2 := fun H2 zs2 cell x2 h2 l2 _ =>
      fin H2 zs2 cell x2 h2 l2 _ (Int.emod_nonneg _ (by omega)) (Int.emod_lt_of_pos _ hm)
    have zb : ∀ cell : Int, -(2 ^ 64) < (cell % 2147483629 + 7919 * (c + 1)) * 48271 % 2147483647 ∧ (cell % 2147483629 + 7919 * (c + 1)) * 48271 % 2147483647 < 2 ^ 64 := fun cell =>
      ⟨Int.lt_of_lt_of_le (by decide) (Int.emod_nonneg _ (by decide)), Int.lt_trans (Int.emod_lt_of_pos _ (by decide)) (by decide)⟩
    refine ⟨.ref d, rfl, d, _, rfl, .inl (.of h1), _, 2, rfl, rfl, _, rfl, ite2 (fun e => ?_) (fun e => ?_)⟩
    · have ne : zs ≠ [] := fun z => by
        rw [z] at e
        exact absurd (of_decide_eq_true e) (show ¬ (2 : Int) < 2 by decide)
      obtain ⟨ys, y, rfl⟩ : ∃ ys y, zs = ys ++ [y] := ⟨zs.dropLast, zs.getLast ne, (List.dropLast_concat_getLast ne).symm⟩
      have ly : ys.length + 1 ≤ 63 := by rw [List.length_append] at lz; exact lz
      refine ⟨.ref d, rfl, .inl ⟨rfl, _, .of h1⟩, d, _, .int y, rfl, rfl, h1, ?_, ?_⟩
      · rw [List.map_append]
        show (V.int (c + 1) :: .int s0 :: (ys.map V.int ++ [.int y]))[(V.int (c + 1) :: .int s0 :: (ys.map V.int ++ [.int y])).length - 1]? = _
        rw [show (V.int (c + 1) :: .int s0 :: (ys.map V.int ++ [.int y])) = (V.int (c + 1) :: .int s0 :: ys.map V.int) ++ [.int y] from rfl, List.length_append, List.length_singleton, Nat.add_sub_cancel, List.getElem?_append_right (Nat.le_refl _), Nat.sub_self]; rfl
      have ed : (V.int (c + 1) :: .int s0 :: (ys ++ [y]).map V.int).dropLast = .int (c + 1) :: .int s0 :: ys.map V.int := by
        rw [List.map_append, show (V.int (c + 1) :: V.int s0 :: (ys.map V.int ++ [y].map V.int)) = (V.int (c + 1) :: .int s0 :: ys.map V.int) ++ [.int y] from rfl, List.dropLast_concat]
      have x2 : Ex [d] H1 (upd H1 d (.lst (V.int (c + 1) :: .int s0 :: (ys ++ [y]).map V.int).dropLast)) := .put h1 nt_lst (by simp)
      have h2 : (upd H1 d (.lst (V.int (c + 1) :: .int s0 :: (ys ++ [y]).map V.int).dropLast)) d = some (.lst (.int (c + 1) :: .int s0 :: ys.map V.int)) := by rw [upd_same, ed]
      generalize upd H1 d (.lst (V.int (c + 1) :: .int s0 :: (ys ++ [y]).map V.int).dropLast) = H2 at x2 h2 ⊢
      refine ⟨.int y, rfl, 10, 18, rfl, rfl, ⟨by decide, by decide, by decide⟩, y, _, rfl, rfl, _, rfl, ite2 (fun e2 => ?_) fun e2 => ?_⟩
      · refine ⟨.ref d, rfl, .inl ⟨rfl, _, .of h2⟩, .int y, rfl, .int m, rfl, y, m, rfl, rfl, ⟨hm, by omega⟩, d, _, _, rfl, rfl, h2, ?_, ?_⟩
        · show (ys.map V.int).length + 1 + 1 < sizeLine
          rw [List.length_map, sizeLine_eq]; omega
        refine ⟨.int y, rfl, .int m, rfl, y, m, rfl, rfl, hm, ?_⟩
        refine fin _ (ys ++ [y / m]) y ((x1.trans x2).trans (.put h2 nt_lst (by simp))) ?_ (by rw [List.length_append]; exact ly) _ (Int.emod_nonneg _ (by omega)) (Int.emod_lt_of_pos _ hm)
        rw [upd_same, List.map_append]; rfl
      · refine ⟨.int y, rfl, y, 2147483629, rfl, rfl, (by show (0 : Int) < 2147483629; decide), .ref d, rfl, d, _, 0, .int (c + 1), rfl, rfl, .of h2, at0, 7919, c + 1, rfl, rfl, .inl ⟨by decide, by decide⟩, _, _, rfl, rfl, _, 48271, rfl, rfl, .inr ⟨by decide, by decide⟩, _, 2147483647, rfl, rfl, (by show (0 : Int) < 2147483647; decide), ?_⟩
        refine ⟨_, rfl, _, rfl, _, _, rfl, rfl, .inl (zb y), _, rfl, 69621, _, rfl, rfl, .inl ⟨by decide, by decide⟩, _, _, rfl, rfl, .ref d, rfl, d, _, 0, .int (c + 1), rfl, rfl, .of h2, at0, _, _, rfl, rfl, _, 2147483587, rfl, rfl, (by show (0 : Int) < 2147483587; decide), ?_⟩
        refine ⟨_, rfl, _, 64, rfl, rfl, ⟨by decide, by decide⟩, .int m, rfl, _, m, rfl, rfl, hm, ?_⟩
        exact num H2 ys y (x1.trans x2) h2 (by omega) rfl
    · refine ⟨_, rfl, _, 2147483629, rfl, rfl, (by show (0 : Int) < 2147483629; decide), .ref d, rfl, d, _, 0, .int (c + 1), rfl, rfl, .of h1, at0, 7919, c + 1, rfl, rfl, .inl ⟨by decide, by decide⟩, _, _, rfl, rfl, _, 48271, rfl, rfl, .inr ⟨by decide, by decide⟩, _, 2147483647, rfl, rfl, (by show (0 : Int) < 2147483647; decide), ?_⟩
      refine ⟨_, rfl, _, rfl, _, _, rfl, rfl, .inl (zb _), _, rfl, 69621, _, rfl, rfl, .inl ⟨by decide, by decide⟩, _, _, rfl, rfl, .ref d, rfl, d, _, 0, .int (c + 1), rfl, rfl, .of h1, at0, _, _, rfl, rfl, _, 2147483587, rfl, rfl, (by show (0 : Int) < 2147483587; decide), ?_⟩
      refine ⟨_, rfl, _, 64, rfl, rfl, ⟨by decide, by decide⟩, .int m, rfl, _, m, rfl, rfl, hm, ?_⟩
      exact num H1 zs _ x1 h1 lz rfl
def spSome : Sp := fun vs H Q _ => ∃ (d : Addr) (a b : Nat), vs = [.ref d, .int a, .int b] ∧ Deck H d ∧ a < 1000 ∧ ∀ H' (v : Nat), (v ≤ a ∨ v = b) → Ex [d] H H' → Deck H' d → Q (.int v) H'
theorem ok_some {f f1 : Addr} {fd d1 : FuncData} {k : Nat} (F : Fun K "_law_some" "_law_some" s_some f fd) (C__law_draw : Cl P w K mg base k "_law_draw" ["_law_deck_here", "_law_most"] spDraw f1 d1) (m_int : mg "int" = none) : FnOk P w K mg base CX0 (k + 1) f fd ["_law_deck_here", "_law_few", "_law_most"] spSome := by
  refine F.ok sc_some (fun vs H Q E h => ?_) (fun cdv A outer s H vs Q E hr h => ?_)
  · obtain ⟨d, a, b, rfl, _⟩ := h; rfl
  · obtain ⟨d, a, b, rfl, hD, ha, q⟩ := h
    refine ⟨_, (pss_one (ps_ret (pe_ix ix_list (pe_lst (pa_cons (pe_call C__law_draw.g hr (by rfl) C__law_draw.m C__law_draw.k C__law_draw.b .nil pass0 (pa_cons (pv 0) (pa_cons (pe_op op_add (pv 1) pe_int) pa_nil))) (pa_cons (pv 2) pa_nil))) (pe_callTy call_int1 (by rfl) m_int (by decide +kernel) (pa_cons (pe_cmpR op_eq (pe_call C__law_draw.g hr (by rfl) C__law_draw.m C__law_draw.k C__law_draw.b .nil pass0 (pa_cons (pv 0) (pa_cons pe_int pa_nil))) pe_int (nomark _)) pa_nil)) (fun _ _ => rfl)))), ?_⟩
    refine ⟨.ref d, rfl, .int a, rfl, a, 1, rfl, rfl, d, _, rfl, hD, by omega, by omega, fun H1 v v0 v1 x1 D1 => ?_⟩
    refine ⟨.int b, rfl, l2, fun p np => ?_⟩
    have xp : Ex [] H1 (upd H1 p (.lst [.int v, .int b])) := .new np
    have dp : d ≠ p := fun z => by
      obtain ⟨c, s, zs, h, _⟩ := D1
      rw [z, np] at h; cases h
    refine ⟨.ref d, rfl, d, 8, rfl, D1.ex xp (by simp), by decide, by decide, fun H2 u u0 u1 x2 D2 => ?_⟩
    have hp2 : H2 p = some (.lst [.int v, .int b]) := x2.lst upd_same (by simpa using dp.symm)
    refine ⟨rfl, .inr ⟨_, rfl, ?_⟩⟩
    obtain ⟨va, hva⟩ : ∃ va : Nat, v = va := ⟨v.toNat, by omega⟩
    have x : Ex [d] H H2 := (x1.trans (xp.mono (by simp))).trans x2
    by_cases e : V.int u = V.int 1
    · rw [decide_eq_true e]
      exact ⟨p, _, 1, .int b, rfl, rfl, .of hp2, rfl, q H2 b (.inr rfl) x D2⟩
    · rw [decide_eq_false e]
      refine ⟨p, _, 0, .int v, rfl, rfl, .of hp2, rfl, ?_⟩
      rw [hva]
      exact q H2 va (.inl (by omega)) x D2
end
end K13

set_option maxHeartbeats 4000000
namespace K13
open PySem PySem.Spec PyProof.Rows L2 Kk RZ
abbrev s_names : Stmt := topS 42
abbrev n_names : List Str := ["_law_deck_here", "_law_many", "_law_letters", "_law_k", "_law_base", "_law_at", "_law_first", "_law_found"]
theorem sc_names : FnScope n_names ["_law_deck_here", "_law_many"] (defScope s_names) := ⟨rfl, rfl, rfl, by decide +kernel, rfl, by decide +kernel, by decide +kernel⟩
def abc : Str := Str.ofString "abcdefghijklmnopqrstuvwxyz"
/-- the text of one sign -/
def sg (c : Nat) : Str := ⟨#[c]⟩
/-- a name: small letters, at most eight; its last is no k -/
structure NmG (z : Str) : Prop where
  abc : ∀ c ∈ TL.tl z, c ∈ abc.cps.toList
  lo : 1 ≤ z.length
  hi : z.length ≤ 8
  nk : (TL.tl z).getLast? ≠ some 107
theorem abc_at (v : Int) (h0 : 0 ≤ v) (h1 : v < 26) : ∃ c, atI abc.cps.toList v = some c ∧ c ∈ abc.cps.toList ∧ abc.cps.toList[v.toNat]? = some c := by
  have hl : abc.cps.toList.length = 26 := by decide +kernel
  have h2 : v.toNat < abc.cps.toList.length := by omega
  refine ⟨abc.cps.toList[v.toNat], ?_, List.getElem_mem _, List.getElem?_eq_getElem h2⟩
  have := atI_nat (List.getElem?_eq_getElem h2)
  rwa [Int.toNat_of_nonneg h0] at this
theorem sg_sum : ∀ cl : List Nat, ((cl.map sg).map (·.length)).sum = cl.length
  | [] => rfl
  | c :: cl => by
    rw [List.map_cons, List.map_cons, List.sum_cons, sg_sum cl, List.length_cons]
    show 1 + cl.length = cl.length + 1
    omega
theorem join_sg (cl : List Nat) : TL.tl (Txt.join (Str.ofString "") (cl.map sg)) = cl := by
  rw [TL.join_eq, TL.tl_join]
  have e : TL.tl (Str.ofString "") = [] := by decide +kernel
  rw [e]
  induction cl with
  | nil => rfl
  | cons c r ih =>
    cases r with
    | nil => rfl
    | cons c2 r2 =>
      simp only [List.map_cons, TL.joinL, List.nil_append] at ih ⊢
      rw [ih]; rfl
theorem mul01 {z : Str} {n : Int} (h0 : 0 ≤ n) (h1 : n ≤ 1) : MulOk z n ∧ (Txt.mul z n = Str.empty ∨ Txt.mul z n = z) := by
  have hc : n = 0 ∨ n = 1 := by omega
  rcases hc with rfl | rfl
  · refine ⟨⟨by decide, fun h => absurd (by decide) h, fun h => absurd (by decide) h⟩, .inl ?_⟩
    unfold Txt.mul; rw [if_pos (by decide)]
  · refine ⟨⟨by decide, fun _ h => ?_, fun _ h => ?_⟩, .inr ?_⟩
    · simp at h
    · simp at h
    · unfold Txt.mul; rw [if_neg (by decide), if_pos (by simp)]
theorem zs_ok {n : Int} (h0 : 0 ≤ n) (h1 : n ≤ 1) : TL.tl (Txt.mul (Str.ofString "z") n) = [] ∨ TL.tl (Txt.mul (Str.ofString "z") n) = [122] := by
  rcases (mul01 (z := Str.ofString "z") h0 h1).2 with e | e <;> rw [e]
  · exact .inl (by decide +kernel)
  · exact .inr (by decide +kernel)
theorem len_add (a b : Str) : (a ++ b).length = a.length + b.length := by rw [TL.len_tl, TL.tl_append, List.length_append, ← TL.len_tl, ← TL.len_tl]
theorem abc_inj {i j : Nat} (hi : i < 26) (hj : j < 26) (e : abc.cps.toList[i]? = abc.cps.toList[j]?) : i = j := by
  have nd : abc.cps.toList.Nodup := by decide +kernel
  have hl : abc.cps.toList.length = 26 := by decide +kernel
  rw [List.getElem?_eq_getElem (by omega), List.getElem?_eq_getElem (by omega)] at e
  exact (List.getElem_inj nd).mp (Option.some.inj e)
def w8 : List Str := [Str.ofString "same", Str.ofString "way", Str.ofString "left", Str.ofString "far", Str.ofString "twice", Str.ofString "unread", Str.ofString "ended", Str.ofString "on"]
theorem w8_ok : ∀ z ∈ w8, (∀ c ∈ TL.tl z, c ∈ abc.cps.toList) ∧ 1 ≤ z.length ∧ z.length ≤ 8 ∧ (TL.tl z).getLast? ≠ some 107 ∧ (TL.tl z).getLast? ≠ some 113 ∧ (TL.tl z).getLast? ≠ some 122 := by decide +kernel
/-- what a drawn name's signs are -/
theorem name_tl (cl : List Nat) {n : Int} (h0 : 0 ≤ n) (h1 : n ≤ 1) : ∃ zs, (zs = [] ∨ zs = [122]) ∧ TL.tl (Txt.join (Str.ofString "") (cl.map sg) ++ Str.ofString "q" ++ Txt.mul (Str.ofString "z") n) = cl ++ 113 :: zs := by
  refine ⟨_, zs_ok h0 h1, ?_⟩
  rw [TL.tl_append, TL.tl_append, join_sg, show TL.tl (Str.ofString "q") = [113] by decide +kernel]
  simp
theorem name_last {cl zs : List Nat} (hz : zs = [] ∨ zs = [122]) : (cl ++ 113 :: zs).getLast? = some 113 ∨ (cl ++ 113 :: zs).getLast? = some 122 := by
  rcases hz with rfl | rfl
  · exact .inl (by simp)
  · exact .inr (by simp)
theorem name_ok {cl : List Nat} {n : Int} (h0 : 0 ≤ n) (h1 : n ≤ 1) (hl2 : cl.length ≤ 5) (hc : ∀ c ∈ cl, c ∈ abc.cps.toList) : NmG (Txt.join (Str.ofString "") (cl.map sg) ++ Str.ofString "q" ++ Txt.mul (Str.ofString "z") n) := by
  obtain ⟨zs, hz, e⟩ := name_tl cl h0 h1
  have hzl : zs.length ≤ 1 := by rcases hz with rfl | rfl <;> simp
  refine ⟨fun c m => ?_, ?_, ?_, ?_⟩
  · rw [e] at m
    rcases List.mem_append.mp m with m | m
    · exact hc c m
    · rcases List.mem_cons.mp m with m | m
      · rw [m]; decide +kernel
      · rcases hz with rfl | rfl
        · cases m
        · rw [List.mem_singleton.mp m]; decide +kernel
  · rw [TL.len_tl, e, List.length_append, List.length_cons]; omega
  · rw [TL.len_tl, e, List.length_append, List.length_cons]; omega
  · rw [e]
    rcases name_last (cl := cl) hz with z | z <;> rw [z] <;> decide
theorem map_erase (ls : List Str) (i : Nat) : (ls.map V.str).eraseIdx i = (ls.eraseIdx i).map V.str := by
  induction ls generalizing i with
  | nil => rfl
  | cons x ls ih =>
    cases i with
    | zero => rfl
    | succ i => simp only [List.map_cons, List.eraseIdx_cons_succ, ih]
theorem erase_perm : ∀ (l : List Str) (i : Nat) (h : i < l.length), (l[i] :: l.eraseIdx i).Perm l
  | x :: l, 0, _ => List.Perm.refl _
  | x :: l, i + 1, h => by
    have := erase_perm l i (by simpa using h)
    simp only [List.getElem_cons_succ, List.eraseIdx_cons_succ]
    exact (List.Perm.swap _ _ _).trans (List.Perm.cons _ this)
theorem nodup_set {l : List Str} {i : Nat} {z : Str} (nd : l.Nodup) (nz : z ∉ l) : (l.set i z).Nodup := by
  rw [List.Nodup, List.pairwise_iff_getElem] at nd ⊢
  intro a b ha hb hab e
  rw [List.length_set] at ha hb
  rw [List.getElem_set, List.getElem_set] at e
  split at e
  · split at e
    · omega
    · exact nz (by rw [e]; exact List.getElem_mem _)
  · split at e
    · exact nz (by rw [← e]; exact List.getElem_mem _)
    · exact nd a b ha hb hab e
section
variable {P : Program} {w : World} {K : PySem.W.Frag} {mg : Str → Option Value} {base : Heap}
def spNames : Sp := fun vs H Q _ => ∃ (d : Addr) (m : Nat), vs = [.ref d, .int m] ∧ Deck H d ∧ 1 ≤ m ∧ m ≤ 26 ∧
  ∀ H' p (ws : List Str), H p = none → Ex [d] H H' → Deck H' d → H' p = some (.lst (ws.map V.str)) → ws.length = m → (∀ z ∈ ws, NmG z) → ws.Nodup → Q (.ref p) H'
theorem ok_names {f fD : Addr} {fd fdD : FuncData} {k : Nat} (F : Fun K "_law_names" "_law_names" s_names f fd) (C__law_draw : Cl P w K mg base k "_law_draw" ["_law_deck_here", "_law_most"] spDraw fD fdD) (m_len : mg "len" = none) (m_range : mg "range" = none) : FnOk P w K mg base CX0 (k + 1) f fd ["_law_deck_here", "_law_many"] spNames := by
  refine F.ok sc_names (fun vs H Q E h => ?_) (fun cdv A outer s H vs Q E hr h => ?_)
  · obtain ⟨d, m, rfl, _⟩ := h; rfl
  · obtain ⟨d, m, rfl, hD, hm1, hm, q⟩ := h
    refine ⟨_, (pss_cons (ps_set (i := 2) sc_names.nd rfl (.inr rfl) pe_str)
      (pss_cons (ps_setLc (i := 4) (own := [("_law_k", 3)]) (g := gName 3) (tt := tYes) rfl sc_names.nd rfl rfl (sw_true rfl rfl rfl (by decide +kernel)) (pi_range1 (by rfl) m_range (pa_cons (pe_op op_add pe_int (pe_call C__law_draw.g hr (by rfl) C__law_draw.m C__law_draw.k C__law_draw.b .nil pass0 (pa_cons (pv 0) (pa_cons pe_int pa_nil)))) pa_nil)) (blkOk_by (N := n_names) (sc := defScope s_names) (by decide +kernel)) (fun _ _ _ _ _ => pg_name (i := 3) sc_names.nd rfl (Or.inl rfl)) (fun _ _ _ _ _ => pts_nil) (fun _ _ _ _ _ => (pe_ix ix_str (pv 2) (pe_call C__law_draw.g hr (by rfl) C__law_draw.m C__law_draw.k C__law_draw.b .nil pass0 (pa_cons (pv 0) (pa_cons pe_int pa_nil))) (fun _ _ => rfl))))
      (pss_cons (ps_set (i := 5) sc_names.nd rfl (.inl rfl) (pe_call C__law_draw.g hr (by rfl) C__law_draw.m C__law_draw.k C__law_draw.b .nil pass0 (pa_cons (pv 0) (pa_cons (pe_callB call_len_seq (by rfl) m_len PySem.boot_len (pa_cons (pv 4) pa_nil)) pa_nil))))
      (pss_cons (ps_set (i := 6) sc_names.nd rfl (.inl rfl) (pe_call C__law_draw.g hr (by rfl) C__law_draw.m C__law_draw.k C__law_draw.b .nil pass0 (pa_cons (pv 0) (pa_cons pe_int pa_nil))))
      (pss_cons (ps_set (i := 7) sc_names.nd rfl (.inl rfl) (pe_lst pa_nil))
      (pss_cons (ps_for PassesOwn.never rfl (pi_range1 (by rfl) m_range (pa_cons (pv 1) pa_nil)) (pg_name (i := 3) sc_names.nd rfl (.inl rfl)) (pss_cons (ps_asg (pe_ix ix_str (pv 2) (pe_op op_mod (pe_op op_add (pv 6) (pv 3)) pe_int) (fun _ _ => rfl)) (pg_sub (pv 4) (pv 5) set_list))
      (pss_one (ps_expr (pe_bm PySem.F.plainAttrs_list PySem.F.slot_list_append PySem.F.type_list_append mt_append (pv 7) (pa_cons (pe_op op_add_str (pe_op op_add_str (pe_join pe_str (pv 4)) pe_str) (pe_op op_mul_str pe_str (pe_op op_mod (pv 3) pe_int))) pa_nil))))))
      (pss_cons (ps_if (pt_cmpR op_eq (pe_call C__law_draw.g hr (by rfl) C__law_draw.m C__law_draw.k C__law_draw.b .nil pass0 (pa_cons (pv 0) (pa_cons pe_int pa_nil))) pe_int (nomark _)) (pss_one (ps_asg (pe_ix ix_list (pe_lst (pa_cons pe_str (pa_cons pe_str (pa_cons pe_str (pa_cons pe_str (pa_cons pe_str (pa_cons pe_str (pa_cons pe_str (pa_cons pe_str pa_nil))))))))) (pe_op op_mod (pv 6) pe_int) (fun _ _ => rfl)) (pg_sub (pv 7) (pe_call C__law_draw.g hr (by rfl) C__law_draw.m C__law_draw.k C__law_draw.b .nil pass0 (pa_cons (pv 0) (pa_cons (pv 1) pa_nil))) set_list))) pss_nil)
      (pss_one (ps_ret (pv 7)))))))))), ?_⟩
    have dne : ∀ {H9 : Hp} {B : Addr}, Deck H9 d → H9 B = none → d ≠ B := fun ⟨c, s, zs, h, _⟩ n z => by rw [z, n] at h; cases h
    refine ⟨.ref d, rfl, d, 5, rfl, hD, by decide, by decide, fun H1 v hv0 hv1 x1 D1 => ?_⟩
    refine ⟨1, v, rfl, rfl, 1 + v, rfl, by omega, by omega, fun B nB => ?_⟩
    have nB0 : H B = none := x1.f B nB
    have dB : d ≠ B := dne D1 nB
    refine lc_range (lo := 0) (n := (1 + v).toNat) (fun i H2 => ∃ cl : List Nat, H2 B = some (.lst ((cl.map sg).map V.str)) ∧ cl.length = i ∧ (∀ c ∈ cl, c ∈ abc.cps.toList) ∧ Ex [d] H H2 ∧ Deck H2 d) ?_ ?_ ?_
    · exact ⟨[], upd_same, rfl, by simp, x1.trans (.new nB), D1.ex (.new nB (xs := [])) (by simp)⟩
    · intro i H2 hi ⟨cl, hB, hbl, hbs, x2, D2⟩
      refine ⟨rfl, ?_⟩
      refine ⟨.str abc, rfl, .ref d, rfl, d, 26, rfl, D2, by decide, by decide, fun H3 u hu0 hu1 x3 D3 => ?_⟩
      obtain ⟨c, hc1, hc2, _⟩ := abc_at u hu0 hu1
      have hB3 := x3.lst hB (by simpa using dB.symm)
      refine ⟨abc, u, c, rfl, rfl, by decide, hc1, (cl.map sg).map V.str, hB3, by rw [List.length_map, List.length_map]; exact Nat.lt_of_le_of_lt (show cl.length ≤ 10 by omega) (by decide), ?_⟩
      refine ⟨cl ++ [c], by rw [upd_same, List.map_append, List.map_append]; rfl, by rw [List.length_append, hbl]; rfl, fun b hb => ?_, Ex.own nB0 (x2.trans x3) (.put hB3 nt_lst (by simp)), D3.ex (.put (xs := [B]) hB3 nt_lst (by simp)) (by simpa using dB)⟩
      rcases List.mem_append.mp hb with z | z
      · exact hbs b z
      · rw [List.mem_singleton.mp z]; exact hc2
    · intro H2 ⟨bs, hB, hbl, hbs, x2, D2⟩
      have hl : 1 ≤ bs.length ∧ bs.length ≤ 5 := by omega
      refine ⟨.ref d, rfl, .ref B, rfl, B, _, rfl, .inl (.of hB), d, ((bs.map sg).map V.str).length, rfl, D2, by rw [List.length_map, List.length_map]; omega, by rw [List.length_map, List.length_map]; omega, fun H3 at_ ha0 ha1 x3 D3 => ?_⟩
      rw [List.length_map, List.length_map] at ha1
      refine ⟨.ref d, rfl, d, 26, rfl, D3, by decide, by decide, fun H4 fi hf0 hf1 x4 D4 => ?_⟩
      refine ⟨Nat.zero_le _, fun G nG => ?_⟩
      have x24 : Ex [d] H H4 := (x2.trans x3).trans x4
      have nG0 : H G = none := x24.f G nG
      have hB4 : H4 B = some (.lst ((bs.map sg).map V.str)) := x4.lst (x3.lst hB (by simpa using dB.symm)) (by simpa using dB.symm)
      have GB : G ≠ B := (ne_of_none hB4 nG).symm
      have Gd : d ≠ G := dne D4 nG
      refine ⟨.int m, rfl, m, rfl, by omega, by omega, for_range (lo := 0) (n := (m : Int).toNat) (fun i σ H6 => ∃ (cs : List Nat) (gs : List Str) (y : Option V), σ = [some (.ref d), some (.int m), some (.str abc), y, some (.ref B), some (.int at_), some (.int fi), some (.ref G)] ∧
        H6 B = some (.lst ((cs.map sg).map V.str)) ∧ cs.length = bs.length ∧ (∀ b ∈ cs, b ∈ abc.cps.toList) ∧ H6 G = some (.lst (gs.map V.str)) ∧ gs.length = i ∧ (∀ z ∈ gs, NmG z ∧ ((TL.tl z).getLast? = some 113 ∨ (TL.tl z).getLast? = some 122)) ∧
        (∀ (j : Nat) (z : Str), gs[j]? = some z → (TL.tl z)[at_.toNat]? = abc.cps.toList[((fi + (j : Int)) % 26).toNat]?) ∧ Ex [d] H H6 ∧ Deck H6 d) ?_ ?_ ?_⟩
      · exact ⟨bs, [], _, rfl, (Ex.new (xs := []) nG).lst hB4, rfl, hbs, upd_same, rfl, by simp, by simp, x24.trans (.new nG), D4.ex (.new (xs := []) nG) (by simp)⟩
      · intro i σ H6 hi ⟨cs, gs, y, e, hc, hcl, hcs, hg, hgl, hgs, hix, x6, D6⟩
        subst e
        have ai : at_ < ((cs.map sg).map V.str).length := by rw [List.length_map, List.length_map, hcl]; exact ha1
        obtain ⟨c, hc1, hc2, hc3⟩ := abc_at ((fi + (0 + (i : Int))) % 26) (Int.emod_nonneg _ (by decide)) (Int.emod_lt_of_pos _ (by decide))
        refine ⟨.str abc, rfl, .int fi, rfl, .int (0 + (i : Int)), rfl, fi, _, rfl, rfl, _, 26, rfl, rfl, (by show (0 : Int) < 26; decide), abc, _, c, rfl, rfl, by decide, hc1, .ref B, rfl, .int at_, rfl, B, _, at_, at_.toNat, rfl, rfl, hc, ixN_of ha0 ai, ?_⟩
        rw [show (V.str ⟨#[c]⟩ : V) = V.str (sg c) from rfl, ← List.map_set (f := V.str) (a := sg c), ← List.map_set (f := sg) (a := c)]
        have at1 : at_.toNat < cs.length := by rw [hcl]; omega
        have cat : (cs.set at_.toNat c)[at_.toNat]? = some c := by rw [List.getElem?_set_self at1]
        have cl' : (cs.set at_.toNat c).length = bs.length := by rw [List.length_set, hcl]
        have co' : ∀ b ∈ cs.set at_.toNat c, b ∈ abc.cps.toList := fun b hb => by
          rcases List.mem_or_eq_of_mem_set hb with z | z
          · exact hcs b z
          · rw [z]; exact hc2
        generalize cs.set at_.toNat c = cs' at cat cl' co'
        have x7 : Ex [B, d] H6 (upd H6 B (.lst ((cs'.map sg).map V.str))) := .put hc nt_lst (by simp)
        have hB7 : (upd H6 B (.lst ((cs'.map sg).map V.str))) B = some (.lst ((cs'.map sg).map V.str)) := upd_same
        have hG7 : (upd H6 B (.lst ((cs'.map sg).map V.str))) G = some (.lst (gs.map V.str)) := by rw [upd_ne GB]; exact hg
        have D7 : Deck (upd H6 B (.lst ((cs'.map sg).map V.str))) d := D6.ex (.put (xs := [B]) hc nt_lst (by simp)) (by simpa using dB)
        have x07 : Ex [d] H (upd H6 B (.lst ((cs'.map sg).map V.str))) := Ex.own nB0 x6 x7
        have m0 : 0 ≤ (0 + (i : Int)) % 2 := Int.emod_nonneg _ (by decide)
        have m1 : (0 + (i : Int)) % 2 ≤ 1 := by
          have : (0 + (i : Int)) % 2 < 2 := Int.emod_lt_of_pos _ (by decide)
          omega
        have nok := name_ok m0 m1 (cl := cs') (by omega) co'
        obtain ⟨zs, hzs, etl⟩ := name_tl cs' m0 m1
        have nlast := name_last (cl := cs') hzs
        rw [← etl] at nlast
        have j2 : (Txt.join (Str.ofString "") (cs'.map sg)).length = cs'.length := by rw [TL.len_tl, join_sg]
        have q1 : (Str.ofString "q").length = 1 := by decide +kernel
        have k2 : (Txt.mul (Str.ofString "z") ((0 + (i : Int)) % 2)).length ≤ 1 := by
          rw [TL.len_tl]
          rcases zs_ok m0 m1 with e | e <;> rw [e] <;> simp
        refine ⟨.ref G, rfl, .inl ⟨rfl, _, .of hG7⟩, ⟨_, rfl⟩, .ref B, rfl, _, B, cs'.map sg, rfl, rfl, .inl (.of hB7), ?_, _, _, rfl, rfl, ?_, .int (0 + (i : Int)), rfl, _, 2, rfl, rfl, (by show (0 : Int) < 2; decide), _, _, rfl, rfl, (mul01 m0 m1).1, _, _, rfl, rfl, ?_, G, _, _, rfl, rfl, hG7, ?_, ?_⟩
        · rw [sg_sum, cl', show (Str.ofString "").length = 0 by decide +kernel]; omega
        · rw [q1, j2, cl']; exact Nat.le_trans (show bs.length + 1 ≤ 10 by omega) (by decide)
        · rw [len_add, q1, j2, cl']; exact Nat.le_trans (show bs.length + 1 + _ ≤ 10 by omega) (by decide)
        · rw [List.length_map, hgl]; exact Nat.lt_of_le_of_lt (show i ≤ 100 by omega) (by decide)
        · refine ⟨cs', gs ++ [Txt.join (Str.ofString "") (cs'.map sg) ++ Str.ofString "q" ++ Txt.mul (Str.ofString "z") ((0 + (i : Int)) % 2)], _, rfl, by rw [upd_ne GB.symm]; exact hB7, cl', co', by rw [upd_same, List.map_append]; rfl, by rw [List.length_append, hgl]; rfl, fun z hz => ?_, fun j z hz => ?_, Ex.own nG0 x07 (.put hG7 nt_lst (by simp)), D7.ex (.put (xs := [G]) hG7 nt_lst (by simp)) (by simpa using Gd)⟩
          · rcases List.mem_append.mp hz with z1 | z1
            · exact hgs z z1
            · rw [List.mem_singleton.mp z1]; exact ⟨nok, nlast⟩
          · by_cases hj : j < gs.length
            · rw [List.getElem?_append_left hj] at hz
              exact hix j z hz
            · rw [List.getElem?_append_right (by omega)] at hz
              have hj2 : j - gs.length = 0 := by
                cases hq : j - gs.length with
                | zero => rfl
                | succ r => rw [hq] at hz; simp at hz
              have hj3 : j = i := by omega
              rw [hj2] at hz
              cases hz
              rw [etl, hj3, List.getElem?_append_left (by rw [cl']; omega), cat, ← hc3, Int.zero_add]
      · intro σ H6 ⟨cs, gs, y, e, hc, hcl, hcs, hg, hgl, hgs, hix, x6, D6⟩
        subst e
        have nd : gs.Nodup := by
          rw [List.Nodup, List.pairwise_iff_getElem]
          intro i j hi hj hij e
          have h1 := hix i _ (List.getElem?_eq_getElem hi)
          have h2 := hix j _ (List.getElem?_eq_getElem hj)
          rw [e, h2] at h1
          have := abc_inj (by omega) (by omega) h1
          omega
        have hgm : gs.length = m := by omega
        refine ⟨.ref d, rfl, d, 4, rfl, D6, by decide, by decide, fun H7 u u0 u1 x7 D7 => ?_⟩
        have hg7 := x7.lst hg (by simpa using Gd.symm)
        refine ⟨rfl, _, rfl, ite2 (fun e => ?_) fun e => ?_⟩
        · refine ⟨(by show 8 ≤ sizeLine; decide), fun W8 n8 => ?_⟩
          have x8 : Ex [] H7 (upd H7 W8 (.lst (w8.map V.str))) := .new n8
          have f0 : 0 ≤ fi % 8 := Int.emod_nonneg _ (by decide)
          have f1 : fi % 8 < 8 := Int.emod_lt_of_pos _ (by decide)
          obtain ⟨zv, h3⟩ := mem_at3 (xs := w8.map V.str) f0 (by show _ < ((8 : Nat) : Int); exact f1)
          have az := h3.2.1
          obtain ⟨z, mz2, ez⟩ := List.mem_map.mp h3.1
          rw [← ez] at az
          clear h3
          refine ⟨.int fi, rfl, fi, 8, rfl, rfl, (by show (0 : Int) < 8; decide), W8, w8.map V.str, _, .str z, rfl, rfl, .of upd_same, az, .ref G, rfl, .ref d, rfl, .int m, rfl, d, m, rfl, D7.ex x8 (by simp), by omega, by omega, fun H9 t t0 t1 x9 D9 => ?_⟩
          have hg9 := x9.lst (x8.lst hg7) (by simpa using Gd.symm)
          have x09 : Ex [d] H H9 := ((x6.trans x7).trans (x8.mono (by simp))).trans x9
          have tl : t.toNat < gs.length := by omega
          refine ⟨G, _, t, t.toNat, rfl, rfl, hg9, ixN_of t0 (by rw [List.length_map]; omega), ?_⟩
          have xp : Ex [G, d] H9 (upd H9 G (.lst ((gs.map V.str).set t.toNat (.str z)))) := .put hg9 nt_lst (by simp)
          obtain ⟨o1, o2, o3, o4, o5, o6⟩ := w8_ok z mz2
          refine ⟨.ref G, rfl, q _ G (gs.set t.toNat z) nG0 (Ex.own nG0 x09 xp) (D9.ex (.put (xs := [G]) hg9 nt_lst (by simp)) (by simpa using Gd)) ?_ (by rw [List.length_set]; exact hgm) (fun b hb => ?_) ?_⟩
          · rw [upd_same, List.map_set]
          · rcases List.mem_or_eq_of_mem_set hb with zz | zz
            · exact (hgs b zz).1
            · rw [zz]; exact ⟨o1, o2, o3, o4⟩
          · have nz : z ∉ gs := fun m => by
              rcases (hgs z m).2 with e | e
              · exact o5 e
              · exact o6 e
            exact nodup_set nd nz
        · exact ⟨.ref G, rfl, q H7 G gs nG0 (x6.trans x7) D7 hg7 hgm (fun z m => (hgs z m).1) nd⟩
end
end K13

set_option maxHeartbeats 4000000
namespace K13
open PySem PySem.Spec PyProof.Rows L2 Kk RZ
abbrev s_lboxes : Stmt := topS 43
theorem sc_lboxes : FnScope ["_law_deck_here", "_law_names_here", "_law_some_here", "_law_found", "_law_k"] ["_law_deck_here", "_law_names_here"] (defScope s_lboxes) := ⟨rfl, rfl, rfl, by decide +kernel, rfl, by decide +kernel, by decide +kernel⟩
theorem dot_tl : TL.tl dotS = [46] := by decide +kernel
/-- a box: letters and dots, not long -/
structure BxG (b : Str) : Prop where
  len : b.length ≤ 30
  ok : PyData.strOk b = true
theorem strOk_of {b : Str} (h : ∀ c ∈ TL.tl b, c < 1114112) : PyData.strOk b = true := by
  unfold PyData.strOk
  rw [Array.all_eq_true_iff_forall_mem]
  intro c hc
  have := h c (by unfold TL.tl; exact Array.mem_toList_iff.mpr hc)
  exact decide_eq_true this
theorem abc_lt : ∀ c ∈ abc.cps.toList, c < 1114112 := by decide +kernel
theorem NmG.lt {z : Str} (h : NmG z) : ∀ c ∈ TL.tl z, c < 1114112 := fun c m => abc_lt c (h.abc c m)
theorem NmG.box {z : Str} (h : NmG z) : BxG z := ⟨Nat.le_trans h.hi (by decide), strOk_of h.lt⟩
theorem NmG.nodot {z : Str} (h : NmG z) : 46 ∉ TL.tl z := fun m => absurd (h.abc 46 m) (by decide +kernel)
theorem NmG.two {y z : Str} (h : NmG y) (g : NmG z) : BxG (y ++ dotS ++ z) := by
  refine ⟨?_, strOk_of fun c m => ?_⟩
  · rw [len_add, len_add, show dotS.length = 1 by decide +kernel]
    have := h.hi
    have := g.hi
    omega
  · rw [TL.tl_append, TL.tl_append, dot_tl] at m
    rcases List.mem_append.mp m with m | m
    · rcases List.mem_append.mp m with m | m
      · exact h.lt c m
      · rw [List.mem_singleton.mp m]; decide
    · exact g.lt c m
/-- what stands ahead of the first dot, and the rest -/
def prd (b : Str) : List Nat × List Nat := ((TL.tl b).takeWhile (· != 46), (TL.tl b).dropWhile (· != 46))
theorem tw_all {p : Nat → Bool} : ∀ l : List Nat, (∀ x ∈ l, p x = true) → l.takeWhile p = l ∧ l.dropWhile p = []
  | [], _ => ⟨rfl, rfl⟩
  | a :: l, h => by
    obtain ⟨h1, h2⟩ := tw_all l fun x m => h x (List.mem_cons_of_mem _ m)
    have ha := h a List.mem_cons_self
    rw [List.takeWhile_cons, List.dropWhile_cons, if_pos ha, if_pos ha, h1, h2]
    exact ⟨rfl, rfl⟩
theorem prd_no {z : Str} (h : 46 ∉ TL.tl z) : prd z = (TL.tl z, []) := by
  unfold prd
  have e : ∀ x ∈ TL.tl z, (x != 46) = true := fun x m => by
    rw [bne_iff_ne]; intro e; rw [e] at m; exact h m
  rw [(tw_all _ e).1, (tw_all _ e).2]
theorem prd_cut {b : Str} {l r : List Nat} (e : TL.tl b = l ++ 46 :: r) (h : 46 ∉ l) : prd b = (l, 46 :: r) := by
  unfold prd
  have e1 : ∀ x ∈ l, (x != 46) = true := fun x m => by
    rw [bne_iff_ne]; intro e; rw [e] at m; exact h m
  rw [e, List.takeWhile_append_of_pos e1, List.dropWhile_append_of_pos e1]
  simp
theorem tl_inj {a b : Str} (h : TL.tl a = TL.tl b) : a = b := TL.ext_tl h
theorem prd_dot {y z : Str} (h : NmG y) : prd (y ++ dotS ++ z) = (TL.tl y, 46 :: TL.tl z) := prd_cut (by rw [TL.tl_append, TL.tl_append, dot_tl]; simp) h.nodot
/-- the five boxes there are -/
def fiveB (ws : List Str) : List Str := match ws with
  | n0 :: n1 :: n2 :: _ => [n0, n0 ++ dotS ++ n1, n1, n1 ++ dotS ++ n0, n2]
  | _ => []
theorem five_nd {n0 n1 n2 : Str} (h : ∀ z ∈ [n0, n1, n2], NmG z) (nd : [n0, n1, n2].Nodup) : [n0, n0 ++ dotS ++ n1, n1, n1 ++ dotS ++ n0, n2].Nodup := by
  have g0 := h n0 (by simp)
  have g1 := h n1 (by simp)
  have g2 := h n2 (by simp)
  have ti : ∀ {a b : Str}, a ≠ b → TL.tl a ≠ TL.tl b := fun h e => h (tl_inj e)
  simp only [List.nodup_cons, List.mem_cons, List.not_mem_nil, or_false, not_or, not_false_eq_true, List.nodup_nil, and_true] at nd
  obtain ⟨⟨a01, a02⟩, a12⟩ := nd
  have t01 := ti a01
  have t02 := ti a02
  have t12 := ti a12
  refine List.Pairwise.of_map prd (fun a b h e => h (by rw [e])) (show List.Nodup _ from ?_)
  simp only [List.map_cons, List.map_nil, prd_dot g0, prd_dot g1, prd_no g0.nodot, prd_no g1.nodot, prd_no g2.nodot]
  simp [t01, t02, t12]
section
variable {P : Program} {w : World} {K : PySem.W.Frag} {mg : Str → Option Value} {base : Heap}
def spLBoxes : Sp := fun vs H Q _ => ∃ (d l : Addr) (ws : List Str), vs = [.ref d, .ref l] ∧ Deck H d ∧ H l = some (.lst (ws.map V.str)) ∧ l ≠ d ∧ ws.length = 17 ∧ (∀ z ∈ ws, NmG z) ∧ ws.Nodup ∧
  ∀ H' p (bs : List Str), H p = none → Ex [d] H H' → Deck H' d → H' p = some (.lst (bs.map V.str)) → bs.Nodup → 1 ≤ bs.length → bs.length ≤ 4 → (∀ b ∈ bs, b ∈ fiveB ws) → Q (.ref p) H'
theorem ok_lboxes {f f1 : Addr} {fd d1 : FuncData} {k : Nat} (F : Fun K "_law_boxes_of" "_law_boxes_of" s_lboxes f fd) (C__law_draw : Cl P w K mg base k "_law_draw" ["_law_deck_here", "_law_most"] spDraw f1 d1) (m_range : mg "range" = none) (m_len : mg "len" = none) :
    FnOk P w K mg base CX0 (k + 1) f fd ["_law_deck_here", "_law_names_here"] spLBoxes := by
  refine F.ok sc_lboxes (fun vs H Q E h => ?_) (fun cdv A outer s H vs Q E hr h => ?_)
  · obtain ⟨d, l, ws, rfl, _⟩ := h; rfl
  · obtain ⟨d, l, ws, rfl, hD, hl, ld, lw, hN, nd, q⟩ := h
    refine ⟨_, (pss_cons (ps_set (i := 2) sc_lboxes.nd rfl (.inl rfl) (pe_lst (pa_cons (pe_ix ix_list (pv 1) pe_int (fun _ _ => rfl)) (pa_cons (pe_op op_add_str (pe_op op_add_str (pe_ix ix_list (pv 1) pe_int (fun _ _ => rfl)) pe_str) (pe_ix ix_list (pv 1) pe_int (fun _ _ => rfl))) (pa_cons (pe_ix ix_list (pv 1) pe_int (fun _ _ => rfl)) (pa_cons (pe_op op_add_str (pe_op op_add_str (pe_ix ix_list (pv 1) pe_int (fun _ _ => rfl)) pe_str) (pe_ix ix_list (pv 1) pe_int (fun _ _ => rfl))) (pa_cons (pe_ix ix_list (pv 1) pe_int (fun _ _ => rfl)) pa_nil)))))))
      (pss_cons (ps_set (i := 3) sc_lboxes.nd rfl (.inl rfl) (pe_lst pa_nil))
      (pss_cons (ps_for PassesOwn.never rfl (pi_range1 (by rfl) m_range (pa_cons (pe_op op_add pe_int (pe_call C__law_draw.g hr (by rfl) C__law_draw.m C__law_draw.k C__law_draw.b .nil pass0 (pa_cons (pv 0) (pa_cons pe_int pa_nil)))) pa_nil)) (pg_name (i := 4) sc_lboxes.nd rfl (.inl rfl)) (pss_one (ps_expr (pe_bm PySem.F.plainAttrs_list PySem.F.slot_list_append PySem.F.type_list_append mt_append (pv 3) (pa_cons (pe_bm PySem.F.plainAttrs_list PySem.F.slot_list_pop PySem.F.type_list_pop mt_popAt (pv 2) (pa_cons (pe_call C__law_draw.g hr (by rfl) C__law_draw.m C__law_draw.k C__law_draw.b .nil pass0 (pa_cons (pv 0) (pa_cons (pe_callB call_len_seq (by rfl) m_len PySem.boot_len (pa_cons (pv 2) pa_nil)) pa_nil))) pa_nil)) pa_nil)))))
      (pss_one (ps_ret (pv 3)))))), ?_⟩
    obtain ⟨n0, n1, n2, rest, rfl⟩ : ∃ n0 n1 n2 rest, ws = n0 :: n1 :: n2 :: rest := by
      match ws, lw with
      | n0 :: n1 :: n2 :: rest, _ => exact ⟨n0, n1, n2, rest, rfl⟩
    have h6 : ∀ z ∈ [n0, n1, n2], NmG z := fun z m => hN z (by
      simp only [List.mem_cons, List.not_mem_nil, or_false] at m ⊢
      rcases m with m | m | m <;> simp [m])
    have nd6 : [n0, n1, n2].Nodup := (List.nodup_append (l₁ := [n0, n1, n2]) (l₂ := rest) |>.mp nd).1
    have g0 := h6 n0 (by simp)
    have g1 := h6 n1 (by simp)
    have g2 := h6 n2 (by simp)
    have ndA := five_nd h6 nd6
    have s1 : ∀ {y z : Str}, NmG y → z.length ≤ 2 → y.length + z.length ≤ sizeLine := fun {y z} g h => by
      have := g.hi
      rw [sizeLine_eq]; omega
    have s2 : ∀ {y x z : Str}, NmG y → x.length ≤ 2 → NmG z → (y ++ x).length + z.length ≤ sizeLine := fun {y x z} g h g' => by
      have := g.hi
      have := g'.hi
      rw [len_add, sizeLine_eq]; omega
    have ld1 : dotS.length ≤ 2 := by decide +kernel
    have ix : ∀ {H9 : Hp}, Ex [] H H9 → SqL K H9 l ((n0 :: n1 :: n2 :: rest).map V.str) := fun e => .of (e.lst hl)
    have dne : ∀ {H9 : Hp} {B : Addr}, Deck H9 d → H9 B = none → d ≠ B := fun ⟨c, s, zs, h, _⟩ n z => by rw [z, n] at h; cases h
    refine ⟨.ref l, rfl, l, _, 0, _, rfl, rfl, ix .refl, at0,
      .ref l, rfl, l, _, 0, _, rfl, rfl, ix .refl, at0, n0, dotS, rfl, rfl, s1 g0 ld1, .ref l, rfl, l, _, 1, _, rfl, rfl, ix .refl, at1, _, n1, rfl, rfl, s2 g0 ld1 g1,
      .ref l, rfl, l, _, 1, _, rfl, rfl, ix .refl, at1,
      .ref l, rfl, l, _, 1, _, rfl, rfl, ix .refl, at1, n1, dotS, rfl, rfl, s1 g1 ld1, .ref l, rfl, l, _, 0, _, rfl, rfl, ix .refl, at0, _, n0, rfl, rfl, s2 g1 ld1 g0,
      .ref l, rfl, l, _, 2, _, rfl, rfl, ix .refl, at2, (by show 5 ≤ sizeLine; decide), fun R nR => ?_⟩
    have hR1 : (upd H R (.lst ([n0, n0 ++ dotS ++ n1, n1, n1 ++ dotS ++ n0, n2].map V.str))) R = some (.lst ([n0, n0 ++ dotS ++ n1, n1, n1 ++ dotS ++ n0, n2].map V.str)) := upd_same
    have xR : Ex [] H (upd H R (.lst ([n0, n0 ++ dotS ++ n1, n1, n1 ++ dotS ++ n0, n2].map V.str))) := .new nR
    have eH : upd H R (.lst ([n0, n0 ++ dotS ++ n1, n1, n1 ++ dotS ++ n0, n2].map V.str)) = upd H R (.lst [V.str n0, .str (n0 ++ dotS ++ n1), .str n1, .str (n1 ++ dotS ++ n0), .str n2]) := rfl
    generalize hbs : [n0, n0 ++ dotS ++ n1, n1, n1 ++ dotS ++ n0, n2] = fs at hR1 xR eH ndA
    have lfs : fs.length = 5 := by rw [← hbs]; rfl
    have efs : fiveB (n0 :: n1 :: n2 :: rest) = fs := hbs
    rw [efs] at q
    show _
    rw [← eH]
    generalize upd H R (.lst (fs.map V.str)) = H1 at hR1 xR ⊢
    have dR : d ≠ R := dne hD nR
    refine ⟨Nat.zero_le _, fun G nG => ?_⟩
    have xG : Ex [] H1 (upd H1 G (.lst [])) := .new nG
    have D1 := hD.ex xR (by simp)
    have dG : d ≠ G := dne D1 nG
    have RG : R ≠ G := ne_of_none hR1 nG
    have nG0 : H G = none := xR.f _ nG
    refine ⟨.ref d, rfl, d, 4, rfl, D1.ex xG (by simp), by decide, by decide, fun H2 v v0 v1 x2 D2 => ?_⟩
    have hR2 : H2 R = some (.lst (fs.map V.str)) := x2.lst (xG.lst hR1) (by simpa using dR.symm)
    have hG2 : H2 G = some (.lst (([] : List Str).map V.str)) := x2.lst upd_same (by simpa using dG.symm)
    have x02 : Ex [d] H H2 := ((xR.trans xG).mono (by simp)).trans x2
    obtain ⟨vn, rfl⟩ : ∃ vn : Nat, v = vn := ⟨v.toNat, by omega⟩
    refine ⟨1, vn, rfl, rfl, 1 + (vn : Int), rfl, by omega, by omega, ?_⟩
    have eN : (1 : Int) + (vn : Int) = ((1 + vn : Nat) : Int) := by omega
    rw [eN]
    refine for_range (lo := 0) (n := (((1 + vn : Nat) : Int)).toNat) (fun i σ H2 => ∃ (y : Option V) (rs gs : List Str), σ = [some (.ref d), some (.ref l), some (.ref R), some (.ref G), y] ∧ H2 R = some (.lst (rs.map V.str)) ∧ H2 G = some (.lst (gs.map V.str)) ∧ gs.length = i ∧ (gs ++ rs).Perm fs ∧ Deck H2 d ∧ Ex [d] H H2) ?_ ?_ ?_
    · exact ⟨_, fs, [], rfl, hR2, hG2, rfl, List.Perm.refl _, D2, x02⟩
    · rintro i σ H2 hi ⟨y, rs, gs, rfl, hR, hG, lg, pm, D2, x2⟩
      have hi : i < 1 + vn := hi
      have lr : rs.length = 5 - i := by
        have := pm.length_eq
        rw [List.length_append] at this; omega
      refine ⟨.ref G, rfl, .inl ⟨rfl, _, .of hG⟩, .ref R, rfl, .inl ⟨rfl, _, .of hR⟩, .ref d, rfl, .ref R, rfl, R, _, rfl, .inl (.of hR), d, _, rfl, D2, by rw [List.length_map]; omega, by rw [List.length_map]; omega, fun H3 u u0 u1 x3 D3 => ?_⟩
      rw [List.length_map] at u1
      have hu : u.toNat < rs.length := by omega
      have hR3 := x3.lst hR (by simpa using dR.symm)
      have hG3 := x3.lst hG (by simpa using dG.symm)
      have hix : ixN (rs.map V.str).length u = some u.toNat := ixN_of u0 (by rw [List.length_map]; exact u1)
      have hget : (rs.map V.str)[u.toNat]? = some (.str rs[u.toNat]) := by rw [List.getElem?_map, List.getElem?_eq_getElem hu]; rfl
      refine ⟨R, _, u, u.toNat, _, rfl, rfl, hR3, by omega, by omega, (ixN_seq hix).1, hget, G, gs.map V.str, _, rfl, rfl, by rw [upd_ne RG.symm]; exact hG3, by rw [List.length_map, sizeLine_eq]; omega, ?_⟩
      have x4 : Ex [R] H3 (upd H3 R (.lst ((rs.map V.str).eraseIdx u.toNat))) := .put hR3 nt_lst (by simp)
      have hG4 : (upd H3 R (.lst ((rs.map V.str).eraseIdx u.toNat))) G = some (.lst (gs.map V.str)) := by rw [upd_ne RG.symm]; exact hG3
      have x5 : Ex [G] (upd H3 R (.lst ((rs.map V.str).eraseIdx u.toNat))) (upd (upd H3 R (.lst ((rs.map V.str).eraseIdx u.toNat))) G (.lst (gs.map V.str ++ [.str rs[u.toNat]]))) := .put hG4 nt_lst (by simp)
      refine ⟨_, rs.eraseIdx u.toNat, gs ++ [rs[u.toNat]], rfl, ?_, by rw [upd_same, List.map_append]; rfl, by rw [List.length_append, lg]; rfl, ?_, (D3.ex x4 (by simpa using dR)).ex x5 (by simpa using dG), ?_⟩
      · rw [upd_ne RG, upd_same, map_erase]
      · rw [List.append_assoc]
        exact (List.Perm.append_left gs (erase_perm rs u.toNat hu)).trans pm
      · exact Ex.own nG0 (Ex.own nR (x2.trans x3) (x4.mono fun b hb => by simp at hb; simp [hb])) (x5.mono fun b hb => by simp at hb; simp [hb])
    · rintro σ H2 ⟨y, rs, gs, rfl, hR, hG, lg, pm, D2, x2⟩
      have lg : gs.length = 1 + vn := lg
      exact ⟨.ref G, rfl, q H2 G gs nG0 x2 D2 hG (List.nodup_append.mp (pm.nodup_iff.mpr ndA)).1 (by omega) (by omega) fun z hz => pm.mem_iff.mp (List.mem_append_left _ hz)⟩
end
end K13

set_option maxHeartbeats 4000000
namespace Kk
open PySem PySem.Spec PyProof.Rows L2
theorem pe_bmK {X : Cx} {K : PySem.W.Frag} {o e : Expr} {es : List Expr} {to : TE} {t : TA} {name : Str} {apos cpos : Pos} {T id : String} {r : V → List V → Hp → VK → Prop} (h : X.K = K) (pa : PlainAttrs T) (slot : Slot T name id) (hty : typeOf (.builtin id) = pure (.type "method_descriptor")) (hm : MtR X id r) (ho : PE X o to) (ha : PA X (e :: es) t)
    (h1 : attributeBase o name X.env (eval o X.env) = eval o X.env := by rfl)
    (h2 : ((backTo cpos (starEach (e :: es) X.env)).all (fun x => !x.1) && (backToKw cpos (keywordEach [] X.env)).all (fun x => x.1.isSome) && decide ((e :: es).length + ([] : List Keyword).length + (if ([] : List Keyword).isEmpty then 0 else 1) < 30)) = true := by rfl)
    (h3 : (apos.endLine == cpos.line) = true := by rfl) (h4 : starEach (e :: es) X.env = (false, eval e X.env) :: starEach es X.env := by rfl) (h5 : (backTo cpos (starEach es X.env)).any (·.1) = false := by rfl) :
    PE X (.Call (.Attribute o name apos) (e :: es) [] cpos) (tBM K T r to t) := by
  subst h
  exact pe_bm pa slot hty hm ho ha h1 h2 h3 h4 h5
end Kk
namespace K13
open PySem PySem.Spec PyProof.Rows L2 Kk RZ
abbrev s_endw : Stmt := topS 44
abbrev n_endw : List Str := ["_law_deck_here", "_law_way", "_law_boxes", "_law_fault", "_law_some_here", "_law_dropped", "_law_k"]
theorem sc_endw : FnScope n_endw ["_law_deck_here", "_law_way", "_law_boxes", "_law_fault"] (defScope s_endw) := ⟨rfl, rfl, rfl, by decide +kernel, rfl, by decide +kernel, by decide +kernel⟩
abbrev s_entr : Stmt := topS 45
abbrev n_entr : List Str := ["_law_place", "_law_boxes", "_law_worths", "_law_box"]
theorem sc_entr : FnScope n_entr ["_law_place", "_law_boxes", "_law_worths"] (defScope s_entr) := ⟨rfl, rfl, rfl, by decide +kernel, rfl, by decide +kernel, by decide +kernel⟩
/-- the last words of the row called last -/
def EndOk (way : Int) (y : Str) (bs : List Str) (E : List Wo) : Prop := (way = 0 ∧ E = [.fault y]) ∨ (way = 1 ∧ E = [.risk y]) ∨ (way = 2 ∧ E = [.back]) ∨ (way = 3 ∧ E = []) ∨ (way = 4 ∧ ∃ gs rs : List Str, E = [.drop gs] ∧ (gs ++ rs).Perm bs)
def entW (pd : PyData) (wf : Str → Str) (b : Str) : PyData := .tuple [pd, .str b, .tuple [.str (wf b)]]
def WdH (H : Hp) (a : Addr) (wf : Str → Str) (bs : List Str) : Prop := ∃ kvs, H a = some (.dK kvs) ∧ ∀ b ∈ bs, valV kvs (qK b) = some (.str (wf b))
theorem WdH.ex {H H' : Hp} {a : Addr} {wf : Str → Str} {bs : List Str} {xs : List Addr} (h : WdH H a wf bs) (e : Ex xs H H') (m : a ∉ xs) : WdH H' a wf bs := by
  obtain ⟨kvs, h1, h2⟩ := h
  exact ⟨kvs, e.dK h1 m, h2⟩
theorem srtS_ok (bs : List Str) : (srtS bs).Perm bs ∧ (srtS bs).Pairwise leS := by
  obtain ⟨ys, pm, srt⟩ := srt_ex bs
  rw [srtS_eq pm srt]
  exact ⟨pm, pw_sorted srt⟩
section
variable {P : Program} {w : World} {K : PySem.W.Frag} {mg : Str → Option Value} {base : Heap}
def spEndW (K : PySem.W.Frag) : Sp := fun vs H Q _ => ∃ (d l : Addr) (way : Int) (y : Str) (bs : List Str), vs = [.ref d, .int way, .ref l, .str y] ∧ Deck H d ∧ H l = some (.lst (bs.map V.str)) ∧ l ≠ d ∧ 1 ≤ bs.length ∧ bs.length ≤ 60 ∧ 0 ≤ way ∧ way < 5 ∧
  ∀ H' t E, Ex [d] H H' → Deck H' d → Tp K H' (.ref t) (rowD E) → EndOk way y bs E → Q (.ref t) H'
theorem ok_endw {f f1 : Addr} {fd d1 : FuncData} {k : Nat} (F : Fun K "_law_end_words" "_law_end_words" s_endw f fd) (C__law_draw : Cl P w K mg base k "_law_draw" ["_law_deck_here", "_law_most"] spDraw f1 d1) (m_list : mg "list" = none) (m_range : mg "range" = none) (m_len : mg "len" = none) (m_tuple : mg "tuple" = none) :
    FnOk P w K mg base CX0 (k + 1) f fd ["_law_deck_here", "_law_way", "_law_boxes", "_law_fault"] (spEndW K) := by
  refine F.ok sc_endw (fun vs H Q E h => ?_) (fun cdv A outer s H vs Q E hr h => ?_)
  · obtain ⟨d, l, way, y, bs, rfl, _⟩ := h; rfl
  · obtain ⟨d, l, way, y, bs, rfl, hD, hl, ld, lb1, lb, w0, w1, q⟩ := h
    refine ⟨_, (pss_cons (ps_if (pt_cmpR op_lt (pv 1) pe_int (nomark _)) (pss_one (ps_ret (pe_tup (pa_cons (pe_tup (pa_cons (pe_ix ix_list (pe_lst (pa_cons pe_str (pa_cons pe_str pa_nil))) (pv 1) (fun _ _ => rfl)) (pa_cons (pv 3) pa_nil))) pa_nil)))) pss_nil)
      (pss_cons (ps_if (pt_cmpR op_eq (pv 1) pe_int (nomark _)) (pss_one (ps_ret (pe_tup (pa_cons (pe_tup (pa_cons pe_str pa_nil)) pa_nil)))) pss_nil)
      (pss_cons (ps_if (pt_cmpR op_eq (pv 1) pe_int (nomark _)) (pss_one (ps_ret (pe_tup pa_nil))) pss_nil)
      (pss_cons (ps_set (i := 4) sc_endw.nd rfl (.inr rfl) (pe_callTy call_list_of (by rfl) m_list (by decide +kernel) (pa_cons (pv 2) pa_nil)))
      (pss_cons (ps_setLc (i := 5) (own := [("_law_k", 6)]) (g := gName 6) (tt := tYes) rfl sc_endw.nd rfl rfl (sw_true rfl rfl rfl (by decide +kernel)) (pi_range1 (by rfl) m_range (pa_cons (pe_op op_add pe_int (pe_call C__law_draw.g hr (by rfl) C__law_draw.m C__law_draw.k C__law_draw.b .nil pass0 (pa_cons (pv 0) (pa_cons (pe_callB call_len_seq (by rfl) m_len PySem.boot_len (pa_cons (pv 2) pa_nil)) pa_nil)))) pa_nil)) (blkOk_by (N := n_endw) (sc := defScope s_endw) (by decide +kernel)) (fun _ _ _ _ _ => pg_name (i := 6) sc_endw.nd rfl (Or.inl rfl)) (fun _ _ _ _ _ => pts_nil) (fun _ _ _ _ _ => (pe_bmK (K := K) rfl PySem.F.plainAttrs_list PySem.F.slot_list_pop PySem.F.type_list_pop mt_popAt (pv 4) (pa_cons (pe_call C__law_draw.g hr (by rfl) C__law_draw.m C__law_draw.k C__law_draw.b .nil pass0 (pa_cons (pv 0) (pa_cons (pe_callB (call_lenK (K := K) rfl) (by rfl) m_len PySem.boot_len (pa_cons (pv 4) pa_nil)) pa_nil))) pa_nil))))
      (pss_one (ps_ret (pe_tup (pa_cons (pe_tup (pa_cons pe_str (pa_cons (pe_callTy call_tuple_of (by rfl) m_tuple (by decide +kernel) (pa_cons (pv 5) pa_nil)) pa_nil))) pa_nil))))))))), ?_⟩
    have dne : ∀ {H9 : Hp} {B : Addr}, Deck H9 d → H9 B = none → d ≠ B := fun ⟨c, s, zs, h, _⟩ n z => by rw [z, n] at h; cases h
    have one : ∀ (W : Wo) (H1 : Hp) (t1 : Addr), Ex [d] H H1 → Deck H1 d → EndOk way y bs [W] → Tp K H1 (.ref t1) (wD W) → ∀ t2, H1 t2 = none → Q (.ref t2) (upd H1 t2 (.tup [.ref t1])) := fun W H1 t1 x1 D1 ok tw t2 n2 => by
      have x2 : Ex [] H1 (upd H1 t2 (.tup [.ref t1])) := .new n2
      exact q _ t2 [W] (x1.trans (x2.mono (by simp))) (D1.ex x2 (by simp)) (.tup (.of upd_same) (.cons (tw.ex x2) .nil)) ok
    refine ⟨.int way, rfl, way, 2, rfl, rfl, _, rfl, ite2 (fun e => ?_) fun e => ?_⟩
    · have lw := of_decide_eq_true e
      refine ⟨l2, fun L nL => ?_⟩
      have xL : Ex [] H (upd H L (.lst [.str (Str.ofString "fault"), .str (Str.ofString "risk")])) := .new nL
      have hL : (upd H L (.lst [.str (Str.ofString "fault"), .str (Str.ofString "risk")])) L = some (.lst [.str (Str.ofString "fault"), .str (Str.ofString "risk")]) := upd_same
      rcases (show way = 0 ∨ way = 1 by omega) with rfl | rfl
      · refine ⟨.int 0, rfl, L, _, 0, _, rfl, rfl, .of hL, at0, .str y, rfl, l2, fun t1 n1 => ⟨l1, fun t2 n2 => ?_⟩⟩
        have x1 : Ex [] (upd H L (.lst [.str (Str.ofString "fault"), .str (Str.ofString "risk")])) (upd (upd H L (.lst [.str (Str.ofString "fault"), .str (Str.ofString "risk")])) t1 (.tup [.str (Str.ofString "fault"), .str y])) := .new n1
        exact one (.fault y) _ t1 ((xL.trans x1).mono (by simp)) (hD.ex (xL.trans x1) (by simp)) (.inl ⟨rfl, rfl⟩) (.tup (.of upd_same) (.cons (.str _) (.cons (.str _) .nil))) t2 n2
      · refine ⟨.int 1, rfl, L, _, 1, _, rfl, rfl, .of hL, at1, .str y, rfl, l2, fun t1 n1 => ⟨l1, fun t2 n2 => ?_⟩⟩
        have x1 : Ex [] (upd H L (.lst [.str (Str.ofString "fault"), .str (Str.ofString "risk")])) (upd (upd H L (.lst [.str (Str.ofString "fault"), .str (Str.ofString "risk")])) t1 (.tup [.str (Str.ofString "risk"), .str y])) := .new n1
        exact one (.risk y) _ t1 ((xL.trans x1).mono (by simp)) (hD.ex (xL.trans x1) (by simp)) (.inr (.inl ⟨rfl, rfl⟩)) (.tup (.of upd_same) (.cons (.str _) (.cons (.str _) .nil))) t2 n2
    · have gw : ¬ way < 2 := fun z => e (decide_eq_true z)
      refine ⟨.int way, rfl, rfl, _, rfl, ?_⟩
      by_cases e2 : way = 2
      · subst e2
        refine itD rfl ⟨l1, fun t1 n1 => ⟨l1, fun t2 n2 => ?_⟩⟩
        have x1 : Ex [] H (upd H t1 (.tup [.str (Str.ofString "back")])) := .new n1
        exact one .back _ t1 (x1.mono (by simp)) (hD.ex x1 (by simp)) (.inr (.inr (.inl ⟨rfl, rfl⟩))) (.tup (.of upd_same) (.cons (.str _) .nil)) t2 n2
      · refine itN (fun z => e2 (V.int.inj z)) ⟨.int way, rfl, rfl, _, rfl, ?_⟩
        by_cases e3 : way = 3
        · subst e3
          refine itD rfl ⟨l0, fun t2 n2 => ?_⟩
          have x1 : Ex [] H (upd H t2 (.tup [])) := .new n2
          exact q _ t2 [] (x1.mono (by simp)) (hD.ex x1 (by simp)) (.tup (.of upd_same) .nil) (.inr (.inr (.inr (.inl ⟨rfl, rfl⟩))))
        · refine itN (fun z => e3 (V.int.inj z)) ?_
          have e4 : way = 4 := by omega
          refine ⟨.ref l, rfl, l, _, rfl, .inl (.of hl), fun R nR => ?_⟩
          have xR : Ex [] H (upd H R (.lst (bs.map V.str))) := .new nR
          have hR1 : (upd H R (.lst (bs.map V.str))) R = some (.lst (bs.map V.str)) := upd_same
          generalize upd H R (.lst (bs.map V.str)) = H1 at xR hR1 ⊢
          have dR : d ≠ R := dne hD nR
          have D1 := hD.ex xR (by simp)
          refine ⟨.ref d, rfl, .ref l, rfl, l, _, rfl, .inl (.of (xR.lst hl)), d, _, rfl, D1, by rw [List.length_map]; omega, by rw [List.length_map]; omega, fun H2 v v0 v1 x2 D2 => ?_⟩
          rw [List.length_map] at v1
          have hR2 : H2 R = some (.lst (bs.map V.str)) := x2.lst hR1 (by simpa using dR.symm)
          have x02 : Ex [d] H H2 := (xR.mono (by simp)).trans x2
          obtain ⟨vn, rfl⟩ : ∃ vn : Nat, v = vn := ⟨v.toNat, by omega⟩
          refine ⟨1, vn, rfl, rfl, 1 + (vn : Int), rfl, by omega, by omega, fun G nG => ?_⟩
          have eN : (1 : Int) + (vn : Int) = ((1 + vn : Nat) : Int) := by omega
          rw [eN]
          have dG : d ≠ G := dne D2 nG
          have RG : R ≠ G := ne_of_none hR2 nG
          have nG0 : H G = none := x02.f _ nG
          have xG : Ex [] H2 (upd H2 G (.lst [])) := .new nG
          refine lc_range (lo := 0) (n := (((1 + vn : Nat) : Int)).toNat) (fun i H2 => ∃ rs gs : List Str, H2 R = some (.lst (rs.map V.str)) ∧ H2 G = some (.lst (gs.map V.str)) ∧ gs.length = i ∧ (gs ++ rs).Perm bs ∧ Deck H2 d ∧ Ex [d] H H2) ?_ ?_ ?_
          · exact ⟨bs, [], xG.lst hR2, upd_same, rfl, List.Perm.refl _, D2.ex xG (by simp), x02.trans (xG.mono (by simp))⟩
          · rintro i H2 hi ⟨rs, gs, hR, hG, lg, pm, D2, x2⟩
            have hi : i < 1 + vn := hi
            have lr : rs.length = bs.length - i := by
              have := pm.length_eq
              rw [List.length_append] at this; omega
            refine ⟨rfl, .ref R, rfl, .inl ⟨rfl, _, .of hR⟩, .ref d, rfl, .ref R, rfl, R, _, rfl, .inl (.of hR), d, _, rfl, D2, by rw [List.length_map]; omega, by rw [List.length_map]; omega, fun H3 u u0 u1 x3 D3 => ?_⟩
            rw [List.length_map] at u1
            have hu : u.toNat < rs.length := by omega
            have hR3 := x3.lst hR (by simpa using dR.symm)
            have hG3 := x3.lst hG (by simpa using dG.symm)
            have hix : ixN (rs.map V.str).length u = some u.toNat := ixN_of u0 (by rw [List.length_map]; exact u1)
            have hget : (rs.map V.str)[u.toNat]? = some (.str rs[u.toNat]) := by rw [List.getElem?_map, List.getElem?_eq_getElem hu]; rfl
            refine ⟨R, _, u, u.toNat, _, rfl, rfl, hR3, by omega, by omega, (ixN_seq hix).1, hget, gs.map V.str, by rw [upd_ne RG.symm]; exact hG3, by rw [List.length_map, sizeLine_eq]; omega, ?_⟩
            have x4 : Ex [R] H3 (upd H3 R (.lst ((rs.map V.str).eraseIdx u.toNat))) := .put hR3 nt_lst (by simp)
            have hG4 : (upd H3 R (.lst ((rs.map V.str).eraseIdx u.toNat))) G = some (.lst (gs.map V.str)) := by rw [upd_ne RG.symm]; exact hG3
            have x5 : Ex [G] (upd H3 R (.lst ((rs.map V.str).eraseIdx u.toNat))) (upd (upd H3 R (.lst ((rs.map V.str).eraseIdx u.toNat))) G (.lst (gs.map V.str ++ [.str rs[u.toNat]]))) := .put hG4 nt_lst (by simp)
            refine ⟨rs.eraseIdx u.toNat, gs ++ [rs[u.toNat]], ?_, by rw [upd_same, List.map_append]; rfl, by rw [List.length_append, lg]; rfl, ?_, (D3.ex x4 (by simpa using dR)).ex x5 (by simpa using dG), ?_⟩
            · rw [upd_ne RG, upd_same, map_erase]
            · rw [List.append_assoc]
              exact (List.Perm.append_left gs (erase_perm rs u.toNat hu)).trans pm
            · exact Ex.own nG0 (Ex.own nR (x2.trans x3) (x4.mono fun b hb => by simp at hb; simp [hb])) (x5.mono fun b hb => by simp at hb; simp [hb])
          · rintro H2 ⟨rs, gs, hR, hG, lg, pm, D2, x2⟩
            refine ⟨.ref G, rfl, G, _, rfl, .inl ⟨.of hG, fun t0 n0 => ⟨l2, fun t1 n1 => ⟨l1, fun t2 n2 => ?_⟩⟩⟩⟩
            have y0 : Ex [] H2 (upd H2 t0 (.tup (gs.map V.str))) := .new n0
            have y1 : Ex [] (upd H2 t0 (.tup (gs.map V.str))) (upd (upd H2 t0 (.tup (gs.map V.str))) t1 (.tup [.str (Str.ofString "drop"), .ref t0])) := .new n1
            exact one (.drop gs) _ t1 (x2.trans ((y0.trans y1).mono (by simp))) (D2.ex (y0.trans y1) (by simp)) (.inr (.inr (.inr (.inr ⟨e4, gs, rs, rfl, pm⟩)))) (.tup (.of upd_same) (.cons (.str _) (.cons (.tup (.of (y1.tup upd_same)) (TpAll.strs gs)) .nil))) t2 n2
def spEntr (K : PySem.W.Frag) : Sp := fun vs H Q _ => ∃ (pl : V) (l wd : Addr) (pd : PyData) (bs : List Str) (wf : Str → Str), vs = [pl, .ref l, .ref wd] ∧ Tp K H pl pd ∧ SqL K H l (bs.map V.str) ∧ bs.length < 64 ∧ WdH H wd wf bs ∧
  ∀ H' p xs, H p = none → Ex [] H H' → H' p = some (.lst xs) → TpAll K H' xs ((srtS bs).map (entW pd wf)) → Q (.ref p) H'
theorem ok_entr {f : Addr} {fd : FuncData} {k : Nat} (F : Fun K "_law_entries" "_law_entries" s_entr f fd) (m_sorted : mg "sorted" = none) :
    FnOk P w K mg base CX0 (k + 1) f fd ["_law_place", "_law_boxes", "_law_worths"] (spEntr K) := by
  refine F.ok sc_entr (fun vs H Q E h => ?_) (fun cdv A outer s H vs Q E hr h => ?_)
  · obtain ⟨pl, l, wd, pd, bs, wf, rfl, _⟩ := h; rfl
  · obtain ⟨pl, l, wd, pd, bs, wf, rfl, tpl, hl, lb, hwd, q⟩ := h
    refine ⟨_, (pss_one (ps_ret (pe_lc (own := [("_law_box", 3)]) (g := gName 3) (tt := tYes) rfl sc_entr.nd (pi_list (pe_callB (cr_sortTS (K := K) rfl) (by rfl) m_sorted (by decide +kernel) (pa_cons (pv 1) pa_nil))) (blkOk_by (N := n_entr) (sc := defScope s_entr) (by decide +kernel)) (fun _ _ _ _ _ => pg_name (i := 3) sc_entr.nd rfl (Or.inl rfl)) (fun _ _ _ _ _ => pts_nil)
      (fun _ _ _ _ _ => (pe_tup (pa_cons (pv 0) (pa_cons (pv 3) (pa_cons (pe_tup (pa_cons (pe_dget (hu_of hr) (pv 2) (pv 3) (fun _ _ => rfl)) pa_nil)) pa_nil)))))))), ?_⟩
    refine ⟨.ref l, rfl, l, bs, rfl, .inr hl, lb, fun ys L pm srt nL => ?_⟩
    have xL : Ex [] H (upd H L (.lst (ys.map V.str))) := .new nL
    have hL3 : (upd H L (.lst (ys.map V.str))) L = some (.lst (ys.map V.str)) := upd_same
    have es := srtS_eq pm srt
    rw [es] at q
    generalize upd H L (.lst (ys.map V.str)) = H3 at xL hL3
    refine ⟨L, rfl, ⟨_, .of hL3⟩, fun D nD => ?_⟩
    have LD : L ≠ D := fun z => by rw [← z, hL3] at nD; cases nD
    have nD0 : H D = none := xL.f _ nD
    have wd3 := hwd.ex xL (by simp)
    have wdD : wd ≠ D := fun z => by
      obtain ⟨kvs, h1, _⟩ := wd3
      rw [z, nD] at h1; cases h1
    have ly : ys.length < 64 := by rw [pm.length_eq]; exact lb
    refine lc_list (a := L) (xs := ys.map V.str) (fun i H4 => ∃ xs, H4 D = some (.lst xs) ∧ TpAll K H4 xs ((ys.take i).map (entW pd wf)) ∧ H4 L = some (.lst (ys.map V.str)) ∧ Ex [D] H3 H4) ?_ ?_ ?_ ?_
    · exact ⟨[], upd_same, .nil, by rw [upd_ne LD]; exact hL3, .new nD⟩
    · rintro i H4 _ ⟨_, _, _, h, _⟩
      exact .of h
    · rintro i x H4 hx ⟨xs, hD4, tx4, hL4, x4⟩
      rw [List.getElem?_map] at hx
      cases hbi : ys[i]? with
      | none => rw [hbi] at hx; cases hx
      | some bq =>
        rw [hbi] at hx
        cases hx
        have hi : i < ys.length := (List.getElem?_eq_some_iff.mp hbi).1
        obtain ⟨kvs, w1, w2⟩ := wd3.ex x4 (by simpa using wdD)
        have mb : bq ∈ bs := pm.mem_iff.mp (List.mem_of_getElem? hbi)
        have dg : DGet H4 wd (.str bq) (some (.str (wf bq))) := by
          have := DGet.k (k := qK bq) w1
          rw [w2 bq mb] at this
          exact this
        refine ⟨rfl, pl, rfl, .str bq, rfl, .ref wd, rfl, .str bq, rfl, wd, _, rfl, dg, l1, fun t1 n1 => ⟨l3, fun t2 n2 => ?_⟩⟩
        have y1 : Ex [] H4 (upd H4 t1 (.tup [.str (wf bq)])) := .new n1
        have y2 : Ex [] (upd H4 t1 (.tup [.str (wf bq)])) (upd (upd H4 t1 (.tup [.str (wf bq)])) t2 (.tup [pl, .str bq, .ref t1])) := .new n2
        have y := y1.trans y2
        have h2 : (upd (upd H4 t1 (.tup [.str (wf bq)])) t2 (.tup [pl, .str bq, .ref t1])) t2 = some (.tup [pl, .str bq, .ref t1]) := upd_same
        have h1 := y2.tup (upd_same (H := H4) (a := t1) (o := .tup [.str (wf bq)]))
        generalize upd (upd H4 t1 (.tup [.str (wf bq)])) t2 (.tup [pl, .str bq, .ref t1]) = H5 at y h2 h1 ⊢
        have hD5 := y.lst hD4
        have lxs := tx4.len
        rw [List.length_map, List.length_take] at lxs
        have y3 : Ex [D] H5 (upd H5 D (.lst (xs ++ [.ref t2]))) := .put hD5 nt_lst (by simp)
        have x45 := (y.mono (ys := [D]) (by simp)).trans y3
        refine ⟨xs, hD5, by rw [sizeLine_eq]; omega, xs ++ [.ref t2], upd_same, ?_, x45.lst hL4 (by simpa using LD), x4.trans x45⟩
        rw [List.take_add_one, hbi]
        show TpAll K _ _ ((ys.take i ++ [bq]).map (entW pd wf))
        rw [List.map_append]
        refine (tx4.ex x45).app (.cons ?_ .nil)
        exact .tup (.of (y3.tup h2)) (.cons (((((tpl.ex xL).ex x4)).ex y).ex y3) (.cons (.str _) (.cons (.tup (.of (y3.tup h1)) (.cons (.str _) .nil)) .nil)))
    · rintro H4 ⟨xs, hD4, tx4, hL4, x4⟩
      rw [List.length_map, List.take_length] at tx4
      exact q H4 D xs nD0 (Ex.own nD0 xL x4) hD4 tx4
end
end K13

set_option maxHeartbeats 4000000
namespace K13
open PySem PySem.Spec PyProof.Rows L2 Kk RZ
/-! the run of the programs that the law draws, on data -/
structure Lf where
  nm : Str
  bs : List Str
  wf : Str → Str
def putG (a : Int) (g : Lf) (i : Nat) : Bq → Wv := fun q => if q ∈ g.bs.take i then (a, [g.wf q]) else (0, [])
def clF (a : Int) (g : Lf) : Fr := ⟨plcD g.nm g.bs.length, putG a g g.bs.length⟩
def takesL (g : Lf) : List Wo := g.bs.map fun b => .take b (g.wf b)
def tailL (E : List Wo) (lo : List Lf) : List Wo := match lo with
  | [] => E
  | h :: _ => [.call h.nm [] []]
def rowL (E : List Wo) (g : Lf) (lo : List Lf) : List Wo := takesL g ++ tailL E lo
def nT (us : List Lf) : Nat := (us.map fun g => g.bs.length).sum
def nS (us : List Lf) : Nat := (us.map fun g => g.bs.length + 1).sum
theorem nT_cons (g : Lf) (us : List Lf) : nT (g :: us) = g.bs.length + nT us := by unfold nT; rw [List.map_cons, List.sum_cons]
theorem nS_cons (g : Lf) (us : List Lf) : nS (g :: us) = g.bs.length + 1 + nS us := by unfold nS; rw [List.map_cons, List.sum_cons]
def stD (a : Int) (us : List Lf) (g : Lf) (i : Nat) : Sm := ⟨⟨plcD g.nm i, putG a g i⟩ :: us.map (clF a), [], [], nT us + i, nS us + i, none⟩
noncomputable def entG (pd : PyData) (g : Lf) (bs : List Str) : List PyData := (srtS bs).map (entW pd g.wf)
/-- what is told of the end -/
structure Wy where
  way : Int
  y : Str
  gs : List Str
def enY (Y : Wy) : List PyData := if Y.way < 2 then [.str (Str.ofString "fault"), .str Y.y] else [.str (Str.ofString "ended")]
def p0 (Y : Wy) (g : Lf) : PyData := plcD g.nm (if Y.way = 4 then g.bs.length + 1 else g.bs.length)
def pU (Y : Wy) (u : Lf) : PyData := plcD u.nm (if Y.way < 2 then u.bs.length else u.bs.length + 1)
noncomputable def finL (Y : Wy) (g : Lf) (us : List Lf) : List PyData := (if Y.way = 4 then entG (plcD g.nm g.bs.length) g Y.gs else []) ++ entG (p0 Y g) g (g.bs.filter fun q => decide (¬ q ∈ Y.gs)) ++ us.flatMap fun u => entG (pU Y u) u u.bs
/-- the last words, by the way -/
def EndY (Y : Wy) (g : Lf) (E : List Wo) : Prop := (Y.way = 0 ∧ Y.gs = [] ∧ E = [.fault Y.y]) ∨ (Y.way = 1 ∧ Y.gs = [] ∧ E = [.risk Y.y]) ∨ (Y.way = 2 ∧ Y.gs = [] ∧ E = [.back]) ∨ (Y.way = 3 ∧ Y.gs = [] ∧ E = []) ∨ (Y.way = 4 ∧ E = [.drop Y.gs] ∧ Y.gs.Nodup ∧ ∀ q ∈ Y.gs, q ∈ g.bs)
theorem putG0 (a : Int) (g : Lf) : putG a g 0 = zF := by
  funext q
  unfold putG zF
  rw [List.take_zero, if_neg (by simp)]
theorem putG_succ {a : Int} {g : Lf} {i : Nat} {b : Str} (h : g.bs[i]? = some b) : putG a g (i + 1) = setF (putG a g i) b (a, [g.wf b]) := by
  funext q
  unfold putG setF
  rw [List.take_add_one, h]
  show (if q ∈ g.bs.take i ++ [b] then _ else _) = _
  by_cases e : q = b
  · rw [if_pos (by rw [e]; simp), if_pos e, e]
  · rw [if_neg e]
    show _ = (if q ∈ g.bs.take i then (a, [g.wf q]) else (0, []))
    by_cases m : q ∈ g.bs.take i
    · rw [if_pos m, if_pos (List.mem_append_left _ m)]
    · rw [if_neg m, if_neg]
      intro z
      rcases List.mem_append.mp z with z | z
      · exact m z
      · exact e (List.mem_singleton.mp z)
theorem putG_all (a : Int) (g : Lf) (q : Str) : putG a g g.bs.length q = if q ∈ g.bs then (a, [g.wf q]) else (0, []) := by
  unfold putG; rw [List.take_length]
/-- the boxes that hold these, left -/
theorem endL_of {pd : PyData} {f : Bq → Wv} {g : Lf} {bs : List Str} (nd : bs.Nodup) (h : ∀ q, (¬ (f q).2 = []) ↔ q ∈ bs) (hv : ∀ q ∈ bs, (f q).2 = [g.wf q]) : endL pd f [] = entG pd g bs := by
  have s := srtS_ok bs
  unfold endL entG
  rw [nzR_eq (qs := srtS bs) ⟨s.2, s.1.nodup_iff.mpr nd, fun q => by rw [s.1.mem_iff, ← h q]; simp⟩]
  refine List.map_congr_left fun q mq => ?_
  unfold entD entW
  rw [hv q (s.1.mem_iff.mp mq)]; rfl
theorem endL_put {a : Int} {pd : PyData} {g : Lf} (nd : g.bs.Nodup) : endL pd (putG a g g.bs.length) [] = entG pd g g.bs := by
  refine endL_of nd (fun q => ?_) fun q mq => ?_
  · rw [putG_all]
    by_cases m : q ∈ g.bs
    · rw [if_pos m]; simp [m]
    · rw [if_neg m]; simp [m]
  · rw [putG_all, if_pos mq]
theorem leftB_put {a : Int} {pd : PyData} {g : Lf} {gs : List Str} (sub : ∀ q ∈ gs, q ∈ g.bs) : leftB pd (putG a g g.bs.length) gs = entG pd g gs := by
  have s := srtS_ok gs
  unfold leftB entG
  rw [List.filter_eq_self.mpr fun q mq => decide_eq_true (by rw [putG_all, if_pos (sub q (s.1.mem_iff.mp mq))]; simp)]
  refine List.map_congr_left fun q mq => ?_
  unfold entD entW
  rw [putG_all, if_pos (sub q (s.1.mem_iff.mp mq))]; rfl
theorem endL_drop {a : Int} {pd : PyData} {g : Lf} {gs : List Str} (nd : g.bs.Nodup) : endL pd (emF (putG a g g.bs.length) (.drop gs)) [] = entG pd g (g.bs.filter fun q => decide (¬ q ∈ gs)) := by
  have ev : ∀ q, emF (putG a g g.bs.length) (.drop gs) q = if q ∈ gs then (0, []) else putG a g g.bs.length q := fun q => by
    unfold emF
    show (if decide (q ∈ gs) = true then _ else _) = _
    by_cases m : q ∈ gs
    · rw [if_pos (decide_eq_true m), if_pos m]
    · rw [if_neg (by rw [decide_eq_false m]; decide), if_neg m]
  refine endL_of (nd.filter _) (fun q => ?_) fun q mq => ?_
  · rw [ev, List.mem_filter, decide_eq_true_iff]
    by_cases m : q ∈ gs
    · rw [if_pos m]; simp [m]
    · rw [if_neg m, putG_all]
      by_cases m2 : q ∈ g.bs
      · rw [if_pos m2]; simp [m, m2]
      · rw [if_neg m2]; simp [m2]
  · obtain ⟨m1, m2⟩ := List.mem_filter.mp mq
    rw [ev, if_neg (of_decide_eq_true m2), putG_all, if_pos m1]
/-- a program that the law draws -/
structure P13 (ds : List Df) (ws : List Wo) (L : List Lf) (E : List Wo) : Prop where
  row : ∀ up g lo, L = up ++ g :: lo → rowOf ds ws g.nm = some (rowL E g lo)
  hd : ∀ x, hdOf ds x = ([], [])
  nd : ∀ g ∈ L, g.bs.Nodup
section
variable {ds : List Df} {ws : List Wo} {L : List Lf} {E : List Wo} {a : Int} {xs : List V}
theorem P13.wd (h : P13 ds ws L E) {us lo : List Lf} {g : Lf} (e : L = us.reverse ++ g :: lo) (i : Nat) : (flatPr ds ws).wd (plcD g.nm i) = (rowL E g lo)[i]? := fl_wd (h.row _ _ _ e)
theorem row_take {E : List Wo} {g : Lf} {lo : List Lf} {i : Nat} {b : Str} (h : g.bs[i]? = some b) : (rowL E g lo)[i]? = some (.take b (g.wf b)) := by
  unfold rowL takesL
  have hi : i < (g.bs.map fun b => Wo.take b (g.wf b)).length := by rw [List.length_map]; exact (List.getElem?_eq_some_iff.mp h).1
  rw [List.getElem?_append_left hi, List.getElem?_map, h]; rfl
theorem row_tail {E : List Wo} {g : Lf} {lo : List Lf} : (rowL E g lo)[g.bs.length]? = (tailL E lo)[0]? := by
  unfold rowL takesL
  rw [List.getElem?_append_right (by rw [List.length_map]; exact Nat.le_refl _), List.length_map, Nat.sub_self]
theorem row_len {E : List Wo} {g : Lf} {lo : List Lf} : (rowL E g lo).length = g.bs.length + (tailL E lo).length := by
  unfold rowL takesL; rw [List.length_append, List.length_map]
/-- all callers come to their ends -/
theorem ends_up (h : P13 ds ws L E) : ∀ (us : List Lf) (lo : List Lf) (F : Fr) (told : List Int) (left : List PyData) (wt st : Nat), L = us.reverse ++ lo → (us = [] ∨ ∃ g lo', lo = g :: lo') → (flatPr ds ws).wd F.pd = none →
    endsN (flatPr ds ws) (us.length + 1) ⟨F :: us.map (clF a), told, left, wt, st, none⟩ = ⟨[], told, left ++ endL F.pd F.f [] ++ us.flatMap (fun u => entG (plcD u.nm (u.bs.length + 1)) u u.bs), wt, st, some [.str (Str.ofString "ended")]⟩
  | [], lo, F, told, left, wt, st, e, _, hw => by
    rw [endsN_yes ⟨rfl, F, [], rfl, hw⟩]
    show backM (flatPr ds ws) _ = _
    unfold backM
    show (⟨[], told, left ++ endL F.pd F.f (hdOf ds _).2, wt, st, _⟩ : Sm) = _
    rw [h.hd]
    show _ = (⟨[], told, left ++ endL F.pd F.f [] ++ [], wt, st, _⟩ : Sm)
    rw [List.append_nil]
  | u :: us, lo, F, told, left, wt, st, e, hlo, hw => by
    rw [endsN_yes ⟨rfl, F, _, rfl, hw⟩]
    obtain ⟨g, lo', rfl⟩ : ∃ g lo', lo = g :: lo' := by
      rcases hlo with z | z
      · cases z
      · exact z
    have eL : L = us.reverse ++ u :: (g :: lo') := by rw [e, List.reverse_cons, List.append_assoc]; rfl
    have mu : u ∈ L := by rw [eL]; simp
    have e1 : backM (flatPr ds ws) ⟨F :: (u :: us).map (clF a), told, left, wt, st, none⟩ = ⟨⟨plcD u.nm (u.bs.length + 1), putG a u u.bs.length⟩ :: us.map (clF a), told, left ++ endL F.pd F.f [], wt, st, none⟩ := by
      show (⟨⟨plcD u.nm (u.bs.length + 1), getF F.f (putG a u u.bs.length) ((getsOf ((flatPr ds ws).wd (plcD u.nm u.bs.length))).zip (hdOf ds _).2)⟩ :: us.map (clF a), told, left ++ endL F.pd F.f (hdOf ds _).2, wt, st, none⟩ : Sm) = _
      rw [h.hd, List.zip_nil_right]
      rfl
    rw [e1]
    have hw2 : (flatPr ds ws).wd (plcD u.nm (u.bs.length + 1)) = none := by
      rw [h.wd eL, List.getElem?_eq_none]
      rw [row_len]
      exact Nat.le_refl _
    show endsN _ (us.length + 1) _ = _
    rw [ends_up h us (u :: g :: lo') _ told _ wt st eL (.inr ⟨u, _, rfl⟩) hw2]
    rw [endL_put (h.nd u mu), List.flatMap_cons]
    simp only [List.append_assoc]
end
end K13

set_option maxHeartbeats 4000000
namespace K13
open PySem PySem.Spec PyProof.Rows L2 Kk RZ
/-- so many steps are left -/
def totL (E : List Wo) : List Lf → Nat
  | [] => 0
  | [g] => g.bs.length + E.length
  | g :: h :: t => g.bs.length + 1 + totL E (h :: t)
theorem tot_up (E : List Wo) (g : Lf) (lo : List Lf) : ∀ us : List Lf, totL E (us.reverse ++ g :: lo) = nS us + totL E (g :: lo) := by
  have key : ∀ (vs : List Lf) (g : Lf) (lo : List Lf), totL E (vs ++ g :: lo) = nS vs + totL E (g :: lo) := by
    intro vs
    induction vs with
    | nil => intro g lo; show _ = 0 + _; rw [Nat.zero_add]; rfl
    | cons v vs ih =>
      intro g lo
      rw [nS_cons, List.cons_append]
      cases vs with
      | nil => show v.bs.length + 1 + totL E (g :: lo) = _; show _ = v.bs.length + 1 + 0 + _; omega
      | cons w vs =>
        show v.bs.length + 1 + totL E (w :: (vs ++ g :: lo)) = _
        have := ih g lo
        rw [List.cons_append] at this
        rw [this]; omega
  intro us
  rw [key]
  congr 1
  unfold nS
  rw [List.map_reverse, List.sum_reverse]
theorem nT_up (us : List Lf) (g : Lf) (lo : List Lf) : nT (us.reverse ++ g :: lo) = nT us + g.bs.length + nT lo := by
  unfold nT
  rw [List.map_append, List.map_reverse, List.sum_append, List.sum_reverse, List.map_cons, List.sum_cons]
  omega
/-- the answers: one number for each take, and at the risk 1 -/
structure A13 (L : List Lf) (Y : Wy) (a : Int) (xs : List V) : Prop where
  a0 : 0 ≤ a
  a1 : a < 10000
  tk : ∀ j, j < nT L → xs[j]? = some (.int a)
  rk : Y.way = 1 → xs[nT L]? = some (.int 1)
noncomputable def mE (Y : Wy) (g : Lf) (us : List Lf) (E : List Wo) (w : Nat) : Sm := ⟨[], [], finL Y g us, w, nS us + g.bs.length + E.length, some (enY Y)⟩
section
variable {ds : List Df} {ws : List Wo} {L : List Lf} {E : List Wo} {a : Int} {xs : List V} {Y : Wy}
theorem not_end {R : Pr} {m : Sm} {F : Fr} {fs : List Fr} {W : Wo} (h : m.fs = F :: fs) (w : R.wd F.pd = some W) : ¬ atEnd R m := fun z => by
  obtain ⟨_, F', fs', e, w'⟩ := z
  rw [h] at e
  cases e
  rw [w] at w'; cases w'
/-- a take done -/
theorem step_take (h : P13 ds ws L E) {us lo : List Lf} {g : Lf} {i : Nat} {b : Str} (e : L = us.reverse ++ g :: lo) (hb : g.bs[i]? = some b) (hx : xs[nT us + i]? = some (.int a)) :
    stepM (flatPr ds ws) xs (stD a us g i) = endsM (flatPr ds ws) (stD a us g (i + 1)) := by
  have hw : (flatPr ds ws).wd (plcD g.nm i) = some (.take b (g.wf b)) := by rw [h.wd e, row_take hb]
  have ea : ansOf xs (stD a us g i) (.take b (g.wf b)) = a := by
    unfold ansOf
    rw [if_pos (by show (0 : Int) < 10000; decide)]
    show (match xs[nT us + i]? with | some (.int a) => a | _ => 0) = a
    rw [hx]
  have e1 : stepM (flatPr ds ws) xs (stD a us g i) = endsM (flatPr ds ws) (dispM (flatPr ds ws) (.take b (g.wf b)) (ansOf xs (stD a us g i) (.take b (g.wf b))) (tick (.take b (g.wf b)) (stD a us g i))) := by
    unfold stepM
    show (match (flatPr ds ws).wd (plcD g.nm i) with | none => _ | some W => _) = _
    rw [hw]
  rw [e1, ea]
  congr 1
  show (⟨⟨plcD g.nm (i + 1), setF (putG a g i) b (a, [g.wf b])⟩ :: us.map (clF a), [], [], nT us + i + 1, nS us + i + 1, none⟩ : Sm) = _
  rw [← putG_succ hb]
  rfl
/-- a call done -/
theorem step_call (h : P13 ds ws L E) {us lo : List Lf} {g n : Lf} (e : L = us.reverse ++ g :: n :: lo) :
    stepM (flatPr ds ws) xs (stD a us g g.bs.length) = endsM (flatPr ds ws) (stD a (g :: us) n 0) := by
  have hw : (flatPr ds ws).wd (plcD g.nm g.bs.length) = some (.call n.nm [] []) := by rw [h.wd e, row_tail]; rfl
  have e1 : stepM (flatPr ds ws) xs (stD a us g g.bs.length) = endsM (flatPr ds ws) (dispM (flatPr ds ws) (.call n.nm [] []) (ansOf xs (stD a us g g.bs.length) (.call n.nm [] [])) (tick (.call n.nm [] []) (stD a us g g.bs.length))) := by
    unfold stepM
    show (match (flatPr ds ws).wd (plcD g.nm g.bs.length) with | none => _ | some W => _) = _
    rw [hw]
  rw [e1]
  congr 1
  show (⟨⟨plcD n.nm 0, zF⟩ :: ⟨plcD g.nm g.bs.length, putG a g g.bs.length⟩ :: us.map (clF a), [], [], nT us + g.bs.length + 0, nS us + g.bs.length + 1, none⟩ : Sm) = _
  unfold stD
  rw [putG0, nT_cons, nS_cons]
  congr 1
  · omega
  · omega
theorem ends_no {us lo : List Lf} {g : Lf} {i : Nat} (h : P13 ds ws L E) (e : L = us.reverse ++ g :: lo) (hi : i < (rowL E g lo).length) : endsM (flatPr ds ws) (stD a us g i) = stD a us g i := by
  refine endsN_no (not_end (W := (rowL E g lo)[i]) rfl ?_) _
  show (flatPr ds ws).wd (plcD g.nm i) = _
  rw [h.wd e, List.getElem?_eq_getElem hi]
theorem us_len (us : List Lf) : (us.map (clF a)).length = us.length := List.length_map ..
theorem ends_last (h : P13 ds ws L E) {us : List Lf} {g : Lf} (e : L = us.reverse ++ [g]) {pd : PyData} {f : Bq → Wv} (told : List Int) (left : List PyData) (wt st : Nat) (hw : (flatPr ds ws).wd pd = none) :
    endsM (flatPr ds ws) ⟨⟨pd, f⟩ :: us.map (clF a), told, left, wt, st, none⟩ = ⟨[], told, left ++ endL pd f [] ++ us.flatMap (fun u => entG (plcD u.nm (u.bs.length + 1)) u u.bs), wt, st, some [.str (Str.ofString "ended")]⟩ := by
  unfold endsM
  show endsN _ ((us.map (clF a)).length + 1) _ = _
  rw [us_len]
  exact ends_up h us [g] ⟨pd, f⟩ told left wt st e (.inr ⟨g, [], rfl⟩) hw
theorem filt_nil (bs : List Str) : (bs.filter fun q => decide (¬ q ∈ ([] : List Str))) = bs := by simp
/-- the last word done, or the last take where there is none -/
theorem step_end (h : P13 ds ws L E) (A : A13 L Y a xs) {us : List Lf} {g : Lf} (e : L = us.reverse ++ [g]) (hY : EndY Y g E) :
    (E = [] → ∃ w, endsM (flatPr ds ws) (stD a us g g.bs.length) = mE Y g us E w) ∧ (E ≠ [] → ∃ w, stepM (flatPr ds ws) xs (stD a us g g.bs.length) = mE Y g us E w) := by
  have mg : g ∈ L := by rw [e]; simp
  have ng := h.nd g mg
  have eT : nT L = nT us + g.bs.length := by rw [e, nT_up]; rfl
  have st : ∀ W, E = [W] → stepM (flatPr ds ws) xs (stD a us g g.bs.length) = endsM (flatPr ds ws) (dispM (flatPr ds ws) W (ansOf xs (stD a us g g.bs.length) W) (tick W (stD a us g g.bs.length))) := fun W eE => by
    have hw : (flatPr ds ws).wd (plcD g.nm g.bs.length) = some W := by rw [h.wd e, row_tail, eE]; rfl
    unfold stepM
    show (match (flatPr ds ws).wd (plcD g.nm g.bs.length) with | none => _ | some W => _) = _
    rw [hw]
  have fa : ∀ (W : Wo) (w : Nat), Y.way < 2 → Y.gs = [] → E = [W] → endsM (flatPr ds ws) (faultM Y.y { stD a us g g.bs.length with wt := w, st := nS us + g.bs.length + 1 }) = mE Y g us E w := fun W w lw eg eE => by
    have e1 : endsM (flatPr ds ws) (faultM Y.y { stD a us g g.bs.length with wt := w, st := nS us + g.bs.length + 1 }) = faultM Y.y { stD a us g g.bs.length with wt := w, st := nS us + g.bs.length + 1 } := endsN_no (fun z => by obtain ⟨z, _⟩ := z; cases z) _
    rw [e1]
    unfold faultM mE enY finL p0 pU
    rw [if_pos lw, eE, eg, if_neg (by omega), if_neg (by omega), filt_nil, List.nil_append]
    congr 1
    show [] ++ ((⟨plcD g.nm g.bs.length, putG a g g.bs.length⟩ : Fr) :: us.map (clF a)).flatMap endF = _
    rw [List.nil_append, List.flatMap_cons, List.flatMap_map]
    congr 1
    · exact endL_put ng
    · have : ∀ vs : List Lf, (∀ v ∈ vs, v ∈ L) → vs.flatMap (fun u => endF (clF a u)) = vs.flatMap fun u => entG (plcD u.nm (if Y.way < 2 then u.bs.length else u.bs.length + 1)) u u.bs := by
        intro vs
        induction vs with
        | nil => intro _; rfl
        | cons v vs ih =>
          intro hv
          rw [List.flatMap_cons, List.flatMap_cons, ih fun u mu => hv u (List.mem_cons_of_mem _ mu), if_pos lw]
          congr 1
          exact endL_put (h.nd v (hv v List.mem_cons_self))
      exact this us fun v mv => by rw [e]; simp [mv]
  have up : ∀ {l1 l2 : List PyData}, l1 = l2 → ¬ Y.way < 2 → l1 ++ us.flatMap (fun u => entG (plcD u.nm (u.bs.length + 1)) u u.bs) = l2 ++ us.flatMap fun u => entG (pU Y u) u u.bs := fun {l1 l2} el nw => by
    rw [el]
    congr 2
    funext u
    unfold pU
    rw [if_neg nw]
  rcases hY with ⟨ew, eg, eE⟩ | ⟨ew, eg, eE⟩ | ⟨ew, eg, eE⟩ | ⟨ew, eg, eE⟩ | ⟨ew, eE, gn, gsub⟩
  · refine ⟨(fun z => by rw [eE] at z; cases z), fun _ => ⟨nT us + g.bs.length + (if 0 < chW (Wo.fault Y.y) then 1 else 0), ?_⟩⟩
    rw [st _ eE]
    exact fa _ _ (by omega) eg eE
  · refine ⟨(fun z => by rw [eE] at z; cases z), fun _ => ⟨nT us + g.bs.length + (if 0 < chW (Wo.risk Y.y) then 1 else 0), ?_⟩⟩
    rw [st _ eE]
    have ea : ansOf xs (stD a us g g.bs.length) (.risk Y.y) = 1 := by
      unfold ansOf
      rw [if_pos (by show (0 : Int) < 2; decide)]
      show (match xs[nT us + g.bs.length]? with | some (.int a) => a | _ => 0) = 1
      rw [← eT, A.rk ew]
    rw [ea]
    exact fa _ _ (by omega) eg eE
  · refine ⟨(fun z => by rw [eE] at z; cases z), fun _ => ?_⟩
    rw [st _ eE]
    refine ⟨nT us + g.bs.length + 0, ?_⟩
    show endsM (flatPr ds ws) (backM (flatPr ds ws) ⟨⟨plcD g.nm g.bs.length, putG a g g.bs.length⟩ :: us.map (clF a), [], [], nT us + g.bs.length + 0, nS us + g.bs.length + 1, none⟩) = _
    have nw : ¬ Y.way < 2 := by omega
    cases us with
    | nil =>
      have e1 : backM (flatPr ds ws) ⟨[⟨plcD g.nm g.bs.length, putG a g g.bs.length⟩], [], [], nT [] + g.bs.length + 0, nS [] + g.bs.length + 1, none⟩ = ⟨[], [], endL (plcD g.nm g.bs.length) (putG a g g.bs.length) [], nT [] + g.bs.length + 0, nS [] + g.bs.length + 1, some [.str (Str.ofString "ended")]⟩ := by
        show (⟨[], [], [] ++ endL (plcD g.nm g.bs.length) (putG a g g.bs.length) (hdOf ds _).2, _, _, _⟩ : Sm) = _
        rw [h.hd, List.nil_append]
      show endsM (flatPr ds ws) (backM (flatPr ds ws) ⟨[⟨plcD g.nm g.bs.length, putG a g g.bs.length⟩], [], [], nT [] + g.bs.length + 0, nS [] + g.bs.length + 1, none⟩) = _
      rw [e1]
      unfold endsM
      rw [endsN_no (fun z => by obtain ⟨z, _⟩ := z; cases z), endL_put ng]
      unfold mE enY finL p0
      rw [if_neg nw, if_neg (by omega), if_neg (by omega), eg, filt_nil, eE, List.nil_append, List.flatMap_nil, List.append_nil]
      rfl
    | cons u us =>
      have eL : L = us.reverse ++ u :: [g] := by rw [e, List.reverse_cons, List.append_assoc]; rfl
      have mu : u ∈ L := by rw [eL]; simp
      have e1 : backM (flatPr ds ws) ⟨⟨plcD g.nm g.bs.length, putG a g g.bs.length⟩ :: (u :: us).map (clF a), [], [], nT (u :: us) + g.bs.length + 0, nS (u :: us) + g.bs.length + 1, none⟩ = ⟨⟨plcD u.nm (u.bs.length + 1), putG a u u.bs.length⟩ :: us.map (clF a), [], endL (plcD g.nm g.bs.length) (putG a g g.bs.length) [], nT (u :: us) + g.bs.length + 0, nS (u :: us) + g.bs.length + 1, none⟩ := by
        show (⟨⟨plcD u.nm (u.bs.length + 1), getF (putG a g g.bs.length) (putG a u u.bs.length) ((getsOf ((flatPr ds ws).wd (plcD u.nm u.bs.length))).zip (hdOf ds _).2)⟩ :: us.map (clF a), [], [] ++ endL (plcD g.nm g.bs.length) (putG a g g.bs.length) (hdOf ds _).2, _, _, none⟩ : Sm) = _
        rw [h.hd, List.zip_nil_right, List.nil_append]
        rfl
      rw [e1]
      have hw2 : (flatPr ds ws).wd (plcD u.nm (u.bs.length + 1)) = none := by
        rw [h.wd eL, List.getElem?_eq_none]
        rw [row_len]
        exact Nat.le_refl _
      unfold endsM
      show endsN _ ((us.map (clF a)).length + 1) _ = _
      rw [us_len, ends_up h us [u, g] _ _ _ _ _ eL (.inr ⟨u, [g], rfl⟩) hw2, endL_put ng, endL_put (h.nd u mu)]
      unfold mE enY finL p0
      rw [if_neg nw, if_neg (by omega), if_neg (by omega), eg, filt_nil, eE, List.nil_append]
      congr 1
      rw [← up rfl nw, List.flatMap_cons, List.append_assoc]
  · refine ⟨fun _ => ?_, fun z => absurd eE z⟩
    have hw : (flatPr ds ws).wd (plcD g.nm g.bs.length) = none := by rw [h.wd e, row_tail, eE]; rfl
    refine ⟨nT us + g.bs.length, ?_⟩
    unfold stD
    rw [ends_last h e _ _ _ _ hw, endL_put ng]
    unfold mE enY finL p0
    rw [if_neg (by omega), if_neg (by omega), if_neg (by omega), eg, filt_nil, eE]
    congr 1
    exact up rfl (by omega)
  · refine ⟨(fun z => by rw [eE] at z; cases z), fun _ => ?_⟩
    rw [st _ eE]
    have hw : (flatPr ds ws).wd (plcD g.nm (g.bs.length + 1)) = none := by
      rw [h.wd e, List.getElem?_eq_none]
      rw [row_len, eE]
      exact Nat.le_refl _
    refine ⟨nT us + g.bs.length + 0, ?_⟩
    show endsM (flatPr ds ws) ⟨⟨plcD g.nm (g.bs.length + 1), emF (putG a g g.bs.length) (.drop Y.gs)⟩ :: us.map (clF a), [] ++ [], [] ++ leftB (plcD g.nm g.bs.length) (putG a g g.bs.length) Y.gs, nT us + g.bs.length + 0, nS us + g.bs.length + 1, none⟩ = _
    rw [ends_last h e _ _ _ _ hw, endL_drop ng, leftB_put gsub]
    unfold mE enY finL p0
    rw [if_neg (show ¬ Y.way < 2 by omega), if_pos ew, if_pos ew, eE, List.nil_append]
    congr 1
    exact up rfl (by omega)
end
end K13

set_option maxHeartbeats 4000000
namespace K13
open PySem PySem.Spec PyProof.Rows L2 Kk RZ
/-- all that the law's drawing promises -/
structure H13 (ds : List Df) (ws : List Wo) (L : List Lf) (E : List Wo) (Y : Wy) (a : Int) (xs : List V) : Prop where
  P : P13 ds ws L E
  A : A13 L Y a xs
  EY : ∀ (us : List Lf) (g : Lf), L = us.reverse ++ [g] → EndY Y g E
  ne : ∀ g ∈ L, 1 ≤ g.bs.length
  mn : ∃ g lo, L = g :: lo ∧ g.nm = emp
  tot : totL E L ≤ 400
inductive Good (L : List Lf) (E : List Wo) (Y : Wy) (a : Int) : Sm → Prop
  | go (us : List Lf) (g : Lf) (lo : List Lf) (i : Nat) (e : L = us.reverse ++ g :: lo) (hi : i < (rowL E g lo).length) : Good L E Y a (stD a us g i)
  | ended (w : Nat) (us : List Lf) (g : Lf) (e : L = us.reverse ++ [g]) : Good L E Y a (mE Y g us E w)
section
variable {ds : List Df} {ws : List Wo} {L : List Lf} {E : List Wo} {a : Int} {xs : List V} {Y : Wy}
theorem EndY.len {g : Lf} (h : EndY Y g E) : E.length ≤ 1 := by
  rcases h with ⟨_, _, e⟩ | ⟨_, _, e⟩ | ⟨_, _, e⟩ | ⟨_, _, e⟩ | ⟨_, e, _⟩ <;> (rw [e]; first | exact Nat.le_refl 1 | exact Nat.zero_le 1)
theorem H13.tail (h : H13 ds ws L E Y a xs) {us lo : List Lf} {g : Lf} (e : L = us.reverse ++ g :: lo) : (tailL E lo).length ≤ 1 := by
  cases lo with
  | nil => exact (h.EY us g e).len
  | cons n lo => exact Nat.le_refl _
theorem good_start (h : H13 ds ws L E Y a xs) : Good L E Y a (endsM (flatPr ds ws) m0) := by
  obtain ⟨g, lo, eL, en⟩ := h.mn
  have e0 : m0 = stD a [] g 0 := by
    unfold m0 stD
    rw [putG0, en]; rfl
  have hi : 0 < (rowL E g lo).length := by
    have := h.ne g (by rw [eL]; exact List.mem_cons_self)
    rw [row_len]; omega
  rw [e0, ends_no h.P (us := []) eL hi]
  exact .go [] g lo 0 eL hi
theorem good_ans (h : H13 ds ws L E Y a xs) {m : Sm} (g : Good L E Y a m) {F : Fr} {fs : List Fr} {W : Wo} (ef : m.fs = F :: fs) (hW : (flatPr ds ws).wd F.pd = some W) (c : 0 < chW W) : ∃ v, xs[m.wt]? = some (.int v) ∧ 0 ≤ v ∧ v < chW W := by
  cases g with
  | ended w us g e => cases ef
  | go us g lo i e hi =>
    cases ef
    have hW : (flatPr ds ws).wd (plcD g.nm i) = some W := hW
    rw [h.P.wd e] at hW
    have hl := h.tail e
    rw [row_len] at hi
    have eT := nT_up us g lo
    rw [← e] at eT
    show ∃ v, xs[nT us + i]? = some (.int v) ∧ 0 ≤ v ∧ v < chW W
    rcases Nat.lt_or_ge i g.bs.length with li | li
    · rw [row_take (List.getElem?_eq_getElem li)] at hW
      cases hW
      exact ⟨a, h.A.tk _ (by omega), h.A.a0, h.A.a1⟩
    · have ei : i = g.bs.length := by omega
      subst ei
      rw [row_tail] at hW
      cases lo with
      | cons n lo =>
        cases hW
        exact absurd c (by show ¬ (0 : Int) < 0; decide)
      | nil =>
        have hW : E[0]? = some W := hW
        have hT : nT us + g.bs.length = nT L := by rw [eT]; rfl
        rcases h.EY us g e with ⟨_, _, eE⟩ | ⟨ew, _, eE⟩ | ⟨_, _, eE⟩ | ⟨_, _, eE⟩ | ⟨_, eE, _⟩
        · rw [eE] at hW
          cases hW
          exact absurd c (by show ¬ (0 : Int) < 0; decide)
        · rw [eE] at hW
          cases hW
          rw [hT]
          exact ⟨1, h.A.rk ew, by decide, by show (1 : Int) < 2; decide⟩
        · rw [eE] at hW
          cases hW
          exact absurd c (by show ¬ (0 : Int) < 0; decide)
        · rw [eE] at hW
          cases hW
        · rw [eE] at hW
          cases hW
          exact absurd c (by show ¬ (0 : Int) < 0; decide)
theorem good_live (h : H13 ds ws L E Y a xs) {us lo : List Lf} {g : Lf} {i : Nat} (e : L = us.reverse ++ g :: lo) (hi : i < (rowL E g lo).length) : live (flatPr ds ws) xs 400 (stD a us g i) ∧ nS us + i < totL E L := by
  have hl := h.tail e
  have lt : nS us + i < totL E L := by
    rw [e, tot_up]
    rw [row_len] at hi
    cases lo with
    | nil =>
      show _ < nS us + (g.bs.length + E.length)
      have hi : i < g.bs.length + E.length := hi
      omega
    | cons n lo =>
      show _ < nS us + (g.bs.length + 1 + totL E (n :: lo))
      have hi : i < g.bs.length + 1 := hi
      omega
  have := h.tot
  refine ⟨⟨rfl, (show nS us + i < 400 by omega), fun z => ?_⟩, lt⟩
  obtain ⟨F, fs, W, e1, e2, e3, e4⟩ := z
  obtain ⟨v, e5, _⟩ := good_ans h (.go us g lo i e hi) e1 e2 e3
  rw [e4] at e5
  rw [List.getElem?_eq_none (Nat.le_refl _)] at e5
  cases e5
theorem good_step (h : H13 ds ws L E Y a xs) {us lo : List Lf} {g : Lf} {i : Nat} (e : L = us.reverse ++ g :: lo) (hi : i < (rowL E g lo).length) : Good L E Y a (stepM (flatPr ds ws) xs (stD a us g i)) := by
  have hl := h.tail e
  have eT := nT_up us g lo
  rw [← e] at eT
  have hi' := hi
  rw [row_len] at hi'
  rcases Nat.lt_or_ge i g.bs.length with li | li
  · rw [step_take h.P e (List.getElem?_eq_getElem li) (h.A.tk _ (by omega))]
    by_cases hj : i + 1 < (rowL E g lo).length
    · rw [ends_no h.P e hj]
      exact .go us g lo (i + 1) e hj
    · rw [row_len] at hj
      cases lo with
      | cons n lo =>
        have hj : ¬ i + 1 < g.bs.length + 1 := hj
        omega
      | nil =>
        have hj : ¬ i + 1 < g.bs.length + E.length := hj
        have ei : i + 1 = g.bs.length := by omega
        have e0 : E = [] := List.length_eq_zero_iff.mp (by omega)
        rw [ei]
        obtain ⟨w, ew⟩ := (step_end h.P h.A e (h.EY us g e)).1 e0
        rw [ew]
        exact .ended w us g e
  · have ei : i = g.bs.length := by omega
    subst ei
    cases lo with
    | cons n lo =>
      have e2 : L = (g :: us).reverse ++ n :: lo := by rw [e, List.reverse_cons, List.append_assoc]; rfl
      have h0 : 0 < (rowL E n lo).length := by
        have := h.ne n (by rw [e2]; simp)
        rw [row_len]; omega
      rw [step_call h.P e, ends_no h.P e2 h0]
      exact .go (g :: us) n lo 0 e2 h0
    | nil =>
      have ne : E ≠ [] := fun z => by
        rw [z] at hi'
        have : g.bs.length < g.bs.length + 0 := hi'
        omega
      obtain ⟨w, ew⟩ := (step_end h.P h.A e (h.EY us g e)).2 ne
      rw [ew]
      exact .ended w us g e
theorem good_run (h : H13 ds ws L E Y a xs) : ∀ (n : Nat) (m : Sm), Good L E Y a m → totL E L ≤ n + m.st → ∃ w us g, L = us.reverse ++ [g] ∧ goN (flatPr ds ws) xs 400 n m = mE Y g us E w := by
  intro n
  induction n with
  | zero =>
    intro m g le
    cases g with
    | ended w us g e => exact ⟨w, us, g, e, rfl⟩
    | go us g lo i e hi =>
      have := (good_live h e hi).2
      have le : totL E L ≤ 0 + (nS us + i) := le
      omega
  | succ n ih =>
    intro m g le
    cases g with
    | ended w us g e => exact ⟨w, us, g, e, goN_no (fun z => by have := z.1; cases this) _⟩
    | go us g lo i e hi =>
      obtain ⟨lv, lt⟩ := good_live h e hi
      rw [goN_yes lv]
      refine ih _ (good_step h e hi) ?_
      have hw : (flatPr ds ws).wd (plcD g.nm i) = some (rowL E g lo)[i] := by rw [h.P.wd e, List.getElem?_eq_getElem hi]
      have := (step_ws (R := flatPr ds ws) (xs := xs) (m := stD a us g i) (F := ⟨plcD g.nm i, putG a g i⟩) rfl hw).2
      rw [this]
      show totL E L ≤ n + (nS us + i + 1)
      have le : totL E L ≤ n + 1 + (nS us + i) := le
      omega
theorem good_reach (h : H13 ds ws L E Y a xs) {m : Sm} (r : Reach (flatPr ds ws) xs 400 m) : Good L E Y a m := by
  induction r with
  | start => exact good_start h
  | step r l ih =>
    cases ih with
    | ended w us g e => have := l.1; cases this
    | go us g lo i e hi => exact good_step h e hi
theorem ans13 (h : H13 ds ws L E Y a xs) : AnsOk (flatPr ds ws) xs 400 := fun m r F fs W e1 e2 e3 _ => good_ans h (good_reach h r) e1 e2 e3
/-- what the run answers -/
theorem res13 (h : H13 ds ws L E Y a xs) : ∃ us g, L = us.reverse ++ [g] ∧ resD (flatPr ds ws) xs 400 = .tuple (enY Y ++ [.int ((nS us + g.bs.length + E.length : Nat) : Int), .tuple [], .tuple (finL Y g us)]) := by
  obtain ⟨w, us, g, e, e2⟩ := good_run h 400 _ (good_start h) (Nat.le_trans h.tot (Nat.le_add_right _ _))
  refine ⟨us, g, e, ?_⟩
  unfold resD runM
  rw [e2]
  rfl
end
end K13

set_option maxHeartbeats 4000000
namespace K13
open PySem PySem.Spec PyProof.Rows L2 Kk RZ
/-! what the law keeps of each frame -/
structure Lb where
  g : Lf
  r : List Wo
def dfB (b : Lb) : Df := ⟨b.g.nm, [], [], b.r⟩
def nmK (ns : List Str) (many k : Nat) : Str := if k = many then emp else (ns[10 + k]?).getD emp
/-- the frames, as the law builds them -/
structure Bok (ns : List Str) (many : Nat) (way : Int) (y : Str) (E : List Wo) (Bs : List Lb) : Prop where
  nm : ∀ (k : Nat) (b : Lb), Bs[k]? = some b → b.g.nm = nmK ns many k
  bs : ∀ (k : Nat) (b : Lb), Bs[k]? = some b → 1 ≤ b.g.bs.length ∧ b.g.bs.length ≤ 4 ∧ b.g.bs.Nodup ∧ (∀ q ∈ b.g.bs, q ∈ fiveB ns) ∧ ∀ q ∈ b.g.bs, b.g.wf q ∈ ns
  r : ∀ (k : Nat) (b : Lb), Bs[k]? = some b → b.r = takesL b.g ++ (if k = 0 then E else [.call (nmK ns many (k - 1)) [] []])
  en : ∀ (b : Lb), Bs[0]? = some b → EndOk way y b.g.bs E

theorem find_uniq {α : Type} {p : α → Bool} : ∀ {l : List α} {d : α}, d ∈ l → p d = true → (∀ e ∈ l, p e = true → e = d) → l.find? p = some d
  | [], _, h, _, _ => by cases h
  | x :: l, d, h, hp, u => by
    rw [List.find?_cons]
    cases hx : p x with
    | true => rw [u x List.mem_cons_self hx]
    | false =>
      rcases List.mem_cons.mp h with e | e
      · rw [e, hx] at hp; cases hp
      · exact find_uniq e hp fun y my => u y (List.mem_cons_of_mem _ my)
section
variable {ns : List Str} {many : Nat} {way : Int} {y : Str} {E : List Wo} {Bs : List Lb}
def dsB (Bs : List Lb) (many : Nat) : List Df := (Bs.take many).map dfB
def wsB (Bs : List Lb) (many : Nat) : List Wo := match Bs[many]? with
  | some b => b.r
  | none => []
def lfB (Bs : List Lb) : List Lf := (Bs.map (·.g)).reverse
structure BokN (ns : List Str) (many : Nat) : Prop where
  len : ns.length = 17
  nm : ∀ z ∈ ns, NmG z
  nd : ns.Nodup
  m1 : 1 ≤ many
  m6 : many ≤ 6
theorem BokN.ne (N : BokN ns many) {k : Nat} (h : k < many) : ∃ x, ns[10 + k]? = some x ∧ nmK ns many k = x ∧ x ≠ emp := by
  have hl : 10 + k < ns.length := by have := N.len; have := N.m6; omega
  refine ⟨ns[10 + k], List.getElem?_eq_getElem hl, ?_, fun e => ?_⟩
  · unfold nmK
    rw [if_neg (by omega), List.getElem?_eq_getElem hl]; rfl
  · have := (N.nm _ (List.getElem_mem hl)).lo
    rw [e] at this
    exact absurd this (by decide +kernel)
theorem BokN.inj (N : BokN ns many) {k j : Nat} (hk : k < many) (hj : j < many) (e : nmK ns many k = nmK ns many j) : k = j := by
  obtain ⟨x, e1, e2, _⟩ := N.ne hk
  obtain ⟨z, e3, e4, _⟩ := N.ne hj
  rw [e2, e4] at e
  rw [← e] at e3
  have hl : 10 + k < ns.length := (List.getElem?_eq_some_iff.mp e1).1
  have hl2 : 10 + j < ns.length := (List.getElem?_eq_some_iff.mp e3).1
  have := (List.getElem?_inj hl N.nd).mp (by rw [e1, e3] : ns[10 + k]? = ns[10 + j]?)
  omega
theorem rowB (N : BokN ns many) (BO : Bok ns many way y E Bs) (lB : Bs.length = many + 1) {k : Nat} {b : Lb} (h : Bs[k]? = some b) : rowOf (dsB Bs many) (wsB Bs many) b.g.nm = some b.r := by
  have hk : k < many + 1 := by rw [← lB]; exact (List.getElem?_eq_some_iff.mp h).1
  unfold rowOf
  rw [BO.nm k b h]
  by_cases e : k = many
  · have : nmK ns many k = emp := by unfold nmK; rw [if_pos e]
    rw [if_pos this]
    unfold wsB
    rw [← e, h]
  · have lk : k < many := by omega
    obtain ⟨x, e1, e2, e3⟩ := N.ne lk
    rw [e2, if_neg e3]
    have : dfOf (dsB Bs many) x = some (dfB b) := by
      unfold dfOf dsB
      refine find_uniq ?_ ?_ fun d md hd => ?_
      · refine List.mem_map.mpr ⟨b, ?_, rfl⟩
        have : (Bs.take many)[k]? = some b := by rw [List.getElem?_take, if_pos lk, h]
        exact List.mem_of_getElem? this
      · refine decide_eq_true ?_
        show b.g.nm = x
        rw [BO.nm k b h, e2]
      · obtain ⟨b', mb, rfl⟩ := List.mem_map.mp md
        obtain ⟨j, hj⟩ := List.mem_iff_getElem?.mp mb
        rw [List.getElem?_take] at hj
        split at hj
        · rename_i lj
          have e4 : b'.g.nm = x := of_decide_eq_true hd
          rw [BO.nm j b' hj, ← e2] at e4
          have := N.inj lj lk e4
          rw [this, h] at hj
          cases hj; rfl
        · cases hj
    rw [this]; rfl
theorem rowB_inv {x : Str} {r : List Wo} (lB : Bs.length = many + 1) (h : rowOf (dsB Bs many) (wsB Bs many) x = some r) : ∃ (k : Nat) (b : Lb), Bs[k]? = some b ∧ r = b.r := by
  unfold rowOf at h
  split at h
  · cases h
    have hl : many < Bs.length := by omega
    refine ⟨many, Bs[many], List.getElem?_eq_getElem hl, ?_⟩
    unfold wsB
    rw [List.getElem?_eq_getElem hl]
  · cases hd : dfOf (dsB Bs many) x with
    | none => rw [hd] at h; cases h
    | some d =>
      rw [hd] at h
      cases h
      have md := List.mem_of_find?_eq_some hd
      obtain ⟨b, mb, rfl⟩ := List.mem_map.mp md
      obtain ⟨j, hj⟩ := List.mem_iff_getElem?.mp mb
      rw [List.getElem?_take] at hj
      split at hj
      · exact ⟨j, b, hj, rfl⟩
      · cases hj
theorem hdB (x : Str) : hdOf (dsB Bs many) x = ([], []) := by
  unfold hdOf
  split
  · rfl
  · cases hd : dfOf (dsB Bs many) x with
    | none => rfl
    | some d =>
      have md := List.mem_of_find?_eq_some hd
      obtain ⟨b, mb, rfl⟩ := List.mem_map.mp md
      rfl
theorem lf_at {Bs : List Lb} {up lo : List Lf} {g : Lf} (h : lfB Bs = up ++ g :: lo) : ∃ b : Lb, Bs[lo.length]? = some b ∧ b.g = g ∧ (∀ n lo', lo = n :: lo' → ∃ b' : Lb, Bs[lo.length - 1]? = some b' ∧ b'.g = n) := by
  have e : Bs.map (·.g) = lo.reverse ++ g :: up.reverse := by
    have := congrArg List.reverse h
    unfold lfB at this
    rw [List.reverse_reverse, List.reverse_append, List.reverse_cons, List.append_assoc] at this
    exact this
  have get : ∀ i q, (lo.reverse ++ g :: up.reverse)[i]? = some q → ∃ b : Lb, Bs[i]? = some b ∧ b.g = q := fun i q hq => by
    rw [← e, List.getElem?_map] at hq
    cases hb : Bs[i]? with
    | none => rw [hb] at hq; cases hq
    | some b => rw [hb] at hq; cases hq; exact ⟨b, hb, rfl⟩
  obtain ⟨b, hb, hg⟩ := get lo.length g (by rw [List.getElem?_append_right (by rw [List.length_reverse]; exact Nat.le_refl _), List.length_reverse, Nat.sub_self]; rfl)
  refine ⟨b, hb, hg, fun n lo' el => ?_⟩
  subst el
  refine get _ n ?_
  rw [List.getElem?_append_left (by rw [List.length_reverse, List.length_cons]; omega), List.reverse_cons, List.getElem?_append_right (by rw [List.length_reverse, List.length_cons]; omega), List.length_reverse, List.length_cons, Nat.add_sub_cancel, Nat.sub_self]
  rfl
theorem p13B (N : BokN ns many) (BO : Bok ns many way y E Bs) (lB : Bs.length = many + 1) : P13 (dsB Bs many) (wsB Bs many) (lfB Bs) E where
  row := fun up g lo h => by
    obtain ⟨b, hb, rfl, hn⟩ := lf_at h
    rw [rowB N BO lB hb, BO.r _ _ hb]
    unfold rowL
    congr 2
    cases lo with
    | nil => rfl
    | cons n lo' =>
      obtain ⟨b', hb', rfl⟩ := hn n lo' rfl
      rw [if_neg (by simp)]
      show _ = [Wo.call b'.g.nm [] []]
      rw [BO.nm _ _ hb']
  hd := hdB
  nd := fun g mg => by
    unfold lfB at mg
    obtain ⟨b, mb, rfl⟩ := List.mem_map.mp (List.mem_reverse.mp mg)
    obtain ⟨k, hk⟩ := List.mem_iff_getElem?.mp mb
    exact (BO.bs k b hk).2.2.1
/-- the last words are such -/
theorem endB (BO : Bok ns many way y E Bs) (lB : Bs.length = many + 1) : ∃ gs, (way ≠ 4 → gs = []) ∧ (way = 4 → E = [.drop gs]) ∧ ∀ (us : List Lf) (g : Lf), lfB Bs = us.reverse ++ [g] → EndY ⟨way, y, gs⟩ g E := by
  have h0 : 0 < Bs.length := by omega
  have b0 : Bs[0]? = some Bs[0] := List.getElem?_eq_getElem h0
  have en := BO.en _ b0
  have at0' : ∀ (us : List Lf) (g : Lf), lfB Bs = us.reverse ++ [g] → g = Bs[0].g := fun us g h => by
    obtain ⟨b, hb, rfl, _⟩ := lf_at h
    have hb : Bs[0]? = some b := hb
    rw [b0] at hb
    cases hb; rfl
  rcases en with ⟨e, eE⟩ | ⟨e, eE⟩ | ⟨e, eE⟩ | ⟨e, eE⟩ | ⟨e, gs, rs, eE, pm⟩
  · exact ⟨[], fun _ => rfl, fun z => by omega, fun us g h => .inl ⟨e, rfl, eE⟩⟩
  · exact ⟨[], fun _ => rfl, fun z => by omega, fun us g h => .inr (.inl ⟨e, rfl, eE⟩)⟩
  · exact ⟨[], fun _ => rfl, fun z => by omega, fun us g h => .inr (.inr (.inl ⟨e, rfl, eE⟩))⟩
  · exact ⟨[], fun _ => rfl, fun z => by omega, fun us g h => .inr (.inr (.inr (.inl ⟨e, rfl, eE⟩)))⟩
  · refine ⟨gs, fun z => absurd e z, fun _ => eE, fun us g h => .inr (.inr (.inr (.inr ⟨e, eE, ?_, fun q mq => ?_⟩)))⟩
    · exact (List.nodup_append.mp (pm.nodup_iff.mpr (BO.bs 0 _ b0).2.2.1)).1
    · rw [at0' us g h]
      exact pm.mem_iff.mp (List.mem_append_left _ mq)
theorem EndOk.len {bs : List Str} (h : EndOk way y bs E) : E.length ≤ 1 := by
  rcases h with ⟨_, e⟩ | ⟨_, e⟩ | ⟨_, e⟩ | ⟨_, e⟩ | ⟨_, _, _, e, _⟩ <;> (rw [e]; first | exact Nat.le_refl 1 | exact Nat.zero_le 1)
theorem tot_le (hE : E.length ≤ 1) : ∀ L : List Lf, totL E L ≤ nS L
  | [] => Nat.le_refl _
  | [g] => by rw [nS_cons]; show g.bs.length + E.length ≤ g.bs.length + 1 + 0; omega
  | g :: h :: t => by
    rw [nS_cons]
    have := tot_le hE (h :: t)
    show g.bs.length + 1 + totL E (h :: t) ≤ _
    omega
theorem nS_le : ∀ L : List Lf, (∀ g ∈ L, g.bs.length ≤ 4) → nS L ≤ 5 * L.length
  | [], _ => Nat.le_refl _
  | g :: L, h => by
    rw [nS_cons, List.length_cons]
    have := nS_le L fun x m => h x (List.mem_cons_of_mem _ m)
    have := h g List.mem_cons_self
    omega
def xsB (a : Int) (n : Nat) (way : Int) : List V := List.replicate n (.int a) ++ (if way = 1 then [V.int 1] else [])
theorem lf_mem {g : Lf} (BO : Bok ns many way y E Bs) (m : g ∈ lfB Bs) : 1 ≤ g.bs.length ∧ g.bs.length ≤ 4 := by
  unfold lfB at m
  obtain ⟨b, mb, rfl⟩ := List.mem_map.mp (List.mem_reverse.mp m)
  obtain ⟨k, hk⟩ := List.mem_iff_getElem?.mp mb
  exact ⟨(BO.bs k b hk).1, (BO.bs k b hk).2.1⟩
theorem lf_len (lB : Bs.length = many + 1) : (lfB Bs).length = many + 1 := by unfold lfB; rw [List.length_reverse, List.length_map, lB]
theorem h13B (N : BokN ns many) (BO : Bok ns many way y E Bs) (lB : Bs.length = many + 1) {a : Int} (a0 : 0 ≤ a) (a1 : a < 10000) : ∃ gs, (way ≠ 4 → gs = []) ∧ (way = 4 → E = [.drop gs]) ∧ H13 (dsB Bs many) (wsB Bs many) (lfB Bs) E ⟨way, y, gs⟩ a (xsB a (nT (lfB Bs)) way) := by
  obtain ⟨gs, g1, g2, g3⟩ := endB BO lB
  have h0 : 0 < Bs.length := by omega
  have hE := (BO.en _ (List.getElem?_eq_getElem h0)).len
  refine ⟨gs, g1, g2, p13B N BO lB, ⟨a0, a1, fun j hj => ?_, fun ew => ?_⟩, g3, fun g m => (lf_mem BO m).1, ?_, ?_⟩
  · unfold xsB
    rw [List.getElem?_append_left (by rw [List.length_replicate]; exact hj), List.getElem?_replicate, if_pos hj]
  · have ew : way = 1 := ew
    unfold xsB
    rw [List.getElem?_append_right (by rw [List.length_replicate]; exact Nat.le_refl _), List.length_replicate, Nat.sub_self, if_pos ew]; rfl
  · have hm : many < Bs.length := by omega
    have em : Bs = Bs.take many ++ [Bs[many]] := by
      have := List.take_append_drop many Bs
      rw [List.drop_eq_getElem_cons hm, List.drop_eq_nil_of_le (by omega)] at this
      exact this.symm
    refine ⟨Bs[many].g, ((Bs.take many).map (·.g)).reverse, ?_, ?_⟩
    · unfold lfB
      conv => lhs; rw [em]
      rw [List.map_append, List.reverse_append]; rfl
    · rw [BO.nm many _ (List.getElem?_eq_getElem hm)]
      unfold nmK
      rw [if_pos rfl]
  · have := tot_le hE (lfB Bs)
    have := nS_le (lfB Bs) fun g m => (lf_mem BO m).2
    rw [lf_len lB] at this
    have := N.m6
    omega
/-- the words of a row -/
theorem word_ok (BO : Bok ns many way y E Bs) {k : Nat} {b : Lb} (h : Bs[k]? = some b) {W : Wo} (m : W ∈ b.r) : flatW W = true ∧ okW (fiveB ns) ns W ∧ (∀ x ca cg, W = .call x ca cg → 1 ≤ k ∧ x = nmK ns many (k - 1) ∧ ca = [] ∧ cg = []) := by
  rw [BO.r k b h] at m
  obtain ⟨b1, b2, b3, b4, b5⟩ := BO.bs k b h
  rcases List.mem_append.mp m with m2 | m2 <;> clear m
  · unfold takesL at m2
    obtain ⟨q, mq, rfl⟩ := List.mem_map.mp m2
    exact ⟨rfl, ⟨b4 q mq, b5 q mq⟩, fun x ca cg e => by cases e⟩
  · split at m2
    · rename_i e0
      subst e0
      rcases BO.en b h with ⟨_, e⟩ | ⟨_, e⟩ | ⟨_, e⟩ | ⟨_, e⟩ | ⟨_, gs, rs, e, pm⟩ <;> rw [e] at m2
      · rw [List.mem_singleton.mp m2]; exact ⟨rfl, True.intro, fun x ca cg e => by cases e⟩
      · rw [List.mem_singleton.mp m2]; exact ⟨rfl, True.intro, fun x ca cg e => by cases e⟩
      · rw [List.mem_singleton.mp m2]; exact ⟨rfl, True.intro, fun x ca cg e => by cases e⟩
      · cases m2
      · rw [List.mem_singleton.mp m2]
        refine ⟨rfl, ?_, fun x ca cg e => by cases e⟩
        show gs.length < 64
        have := pm.length_eq
        rw [List.length_append] at this; omega
    · rename_i e0
      rw [List.mem_singleton.mp m2]
      refine ⟨rfl, True.intro, fun x ca cg e => ?_⟩
      cases e
      exact ⟨by omega, rfl, rfl, rfl⟩
theorem five_len : (fiveB ns).length ≤ 5 := by
  unfold fiveB
  split
  · exact Nat.le_refl _
  · exact Nat.zero_le _
theorem flatB (BO : Bok ns many way y E Bs) (lB : Bs.length = many + 1) : flatG (flatPr (dsB Bs many) (wsB Bs many)) := ⟨_, _, rfl, fun x r h W m => by
  obtain ⟨k, b, hb, rfl⟩ := rowB_inv lB h
  exact (word_ok BO hb m).1⟩
theorem runB (N : BokN ns many) (BO : Bok ns many way y E Bs) (lB : Bs.length = many + 1) {xs : List V} (an : AnsOk (flatPr (dsB Bs many) (wsB Bs many)) xs 400) : RunOk (flatPr (dsB Bs many) (wsB Bs many)) xs 400 (fiveB ns) ns where
  PO := by
    have inr : ∀ {x : Str} {n : Nat} {r : List Wo} {W : Wo}, rowOf (dsB Bs many) (wsB Bs many) x = some r → (flatPr (dsB Bs many) (wsB Bs many)).wd (plcD x n) = some W → n < r.length ∧ W ∈ r := fun h hw => by
      rw [fl_wd h] at hw
      exact ⟨(List.getElem?_eq_some_iff.mp hw).1, List.mem_of_getElem? hw⟩
    refine ⟨?_, ?_, ?_, ?_, ?_, ?_⟩
    · rintro pd ⟨x, n, r, rfl, h, hn⟩
      exact ⟨[.int n], rfl⟩
    · rintro pd x ca cg ⟨x', n, r, rfl, h, hn⟩ hw
      obtain ⟨ln, mw⟩ := inr h hw
      obtain ⟨k, b, hb, rfl⟩ := rowB_inv lB h
      obtain ⟨k1, rfl, rfl, rfl⟩ := (word_ok BO hb mw).2.2 x ca cg rfl
      have hk : k < Bs.length := (List.getElem?_eq_some_iff.mp hb).1
      have hb' : Bs[k - 1]? = some Bs[k - 1] := List.getElem?_eq_getElem (by omega)
      have := rowB N BO lB hb'
      rw [BO.nm _ _ hb'] at this
      refine ⟨⟨_, 0, _, rfl, this, Nat.zero_le _⟩, (fun s m => nomatch m), (fun s m => nomatch m), fun s m => ?_⟩
      have m : s ∈ (hdOf (dsB Bs many) (nmK ns many (k - 1))).1 := m
      rw [hdB] at m
      cases m
    · rintro pd W ⟨x, n, r, rfl, h, hn⟩ hw
      exact ⟨x, n + 1, r, rfl, h, (inr h hw).1⟩
    · rintro pd W j ⟨x, n, r, rfl, h, hn⟩ hw _ _
      exact ⟨x, n + 1, r, rfl, h, (inr h hw).1⟩
    · rintro pd W ⟨x, n, r, rfl, h, hn⟩ hw
      obtain ⟨ln, mw⟩ := inr h hw
      obtain ⟨k, b, hb, rfl⟩ := rowB_inv lB h
      exact (word_ok BO hb mw).2.1
    · rintro pd rs ⟨x, n, r, rfl, h, hn⟩ hw
      obtain ⟨ln, mw⟩ := inr h hw
      obtain ⟨k, b, hb, rfl⟩ := rowB_inv lB h
      have := (word_ok BO hb mw).1
      cases this
  kdl := Nat.lt_of_le_of_lt five_len (by decide)
  wsl := by rw [N.len]; decide
  ws := fun s m => (N.nm s m).box.ok
  mo := by decide
  st := by
    have hm : many < Bs.length := by omega
    have hb : Bs[many]? = some Bs[many] := List.getElem?_eq_getElem hm
    have := rowB N BO lB hb
    rw [BO.nm _ _ hb] at this
    unfold nmK at this
    rw [if_pos rfl] at this
    exact ⟨emp, 0, _, rfl, this, Nat.zero_le _⟩
  an := an
end
end K13

set_option maxHeartbeats 4000000
namespace K13
open PySem PySem.Spec PyProof.Rows L2 Kk RZ
section
variable {ns : List Str} {many : Nat} {way : Int} {y : Str} {E : List Wo} {Bs : List Lb}
/-- what is due of one frame -/
noncomputable def dueF (Y : Wy) (k : Nat) (b : Lb) : List PyData := if k = 0 then (if Y.way = 4 then entG (plcD b.g.nm b.g.bs.length) b.g Y.gs else []) ++ entG (p0 Y b.g) b.g (b.g.bs.filter fun q => decide (¬ q ∈ Y.gs)) else entG (pU Y b.g) b.g b.g.bs
noncomputable def dueN (Y : Wy) (Bs : List Lb) (j : Nat) : List PyData := (List.range j).flatMap fun k => match Bs[k]? with
  | some b => dueF Y k b
  | none => []
theorem dueN_succ {Y : Wy} {j : Nat} {b : Lb} (h : Bs[j]? = some b) : dueN Y Bs (j + 1) = dueN Y Bs j ++ dueF Y j b := by
  unfold dueN
  rw [List.range_succ, List.flatMap_append]
  congr 1
  show (match Bs[j]? with | some b => dueF Y j b | none => []) ++ [] = _
  rw [h, List.append_nil]
theorem flat_range {α : Type} {F : Lb → List α} : ∀ T : List Lb, ((List.range T.length).flatMap fun k => match T[k]? with | some b => F b | none => []) = T.flatMap F
  | [] => rfl
  | t :: T => by
    rw [List.length_cons, List.range_succ_eq_map, List.flatMap_cons, List.flatMap_cons, List.flatMap_map]
    congr 1
    exact flat_range T
theorem dueN_all {Y : Wy} {us : List Lf} {g : Lf} (e : lfB Bs = us.reverse ++ [g]) : dueN Y Bs Bs.length = finL Y g us := by
  have em : Bs.map (·.g) = g :: us := by
    have := congrArg List.reverse e
    unfold lfB at this
    rw [List.reverse_reverse, List.reverse_append, List.reverse_reverse] at this
    exact this
  cases Bs with
  | nil => cases em
  | cons b T =>
    rw [List.map_cons] at em
    injection em with e1 e2
    unfold dueN finL
    rw [List.length_cons, List.range_succ_eq_map, List.flatMap_cons, List.flatMap_map]
    congr 1
    · show dueF Y 0 b = _
      unfold dueF
      rw [if_pos rfl, e1]
    · rw [← e2, List.flatMap_map]
      exact flat_range (F := fun b => entG (pU Y b.g) b.g b.g.bs) T
theorem takes_sum : ((Bs.map fun b => (b.g.bs.length : Int))).sum = (nT (lfB Bs) : Int) := by
  unfold nT lfB
  rw [List.map_reverse, List.sum_reverse, List.map_map]
  induction Bs with
  | nil => rfl
  | cons b T ih =>
    rw [List.map_cons, List.map_cons, List.sum_cons, List.sum_cons, ih]
    show _ = ((b.g.bs.length + _ : Nat) : Int)
    omega
theorem steps_sum (BO : Bok ns many way y E Bs) {us : List Lf} {g : Lf} (e : lfB Bs = us.reverse ++ [g]) : ((Bs.map fun b => (b.r.length : Int))).sum = ((nS us + g.bs.length + E.length : Nat) : Int) := by
  have em : Bs.map (·.g) = g :: us := by
    have := congrArg List.reverse e
    unfold lfB at this
    rw [List.reverse_reverse, List.reverse_append, List.reverse_reverse] at this
    exact this
  have hr := BO.r
  cases Bs with
  | nil => cases em
  | cons b T =>
    rw [List.map_cons] at em
    injection em with e1 e2
    have h0 : b.r.length = g.bs.length + E.length := by
      rw [hr 0 b rfl, if_pos rfl, List.length_append, ← e1]
      unfold takesL
      rw [List.length_map]
    have hT : ∀ t ∈ T, t.r.length = t.g.bs.length + 1 := fun t mt => by
      obtain ⟨k, hk⟩ := List.mem_iff_getElem?.mp mt
      rw [hr (k + 1) t hk, if_neg (by omega), List.length_append]
      unfold takesL
      rw [List.length_map]; rfl
    have : ∀ T : List Lb, (∀ t ∈ T, t.r.length = t.g.bs.length + 1) → ((T.map fun b => (b.r.length : Int))).sum = ((nS (T.map (·.g)) : Nat) : Int) := by
      intro T
      induction T with
      | nil => intro _; rfl
      | cons t T ih =>
        intro h
        rw [List.map_cons, List.sum_cons, ih fun x m => h x (List.mem_cons_of_mem _ m), h t List.mem_cons_self, List.map_cons, nS_cons]
        omega
    rw [List.map_cons, List.sum_cons, this T hT, e2, h0]
    omega
theorem depth_all {n : Nat} : ∀ {ds : List PyData}, (∀ d ∈ ds, d.depth ≤ n) → PyData.depthAll ds ≤ n
  | [], _ => Nat.zero_le _
  | d :: ds, h => by
    show max d.depth (PyData.depthAll ds) ≤ n
    have h1 := h d List.mem_cons_self
    have h2 := depth_all (n := n) (ds := ds) fun e m => h e (List.mem_cons_of_mem _ m)
    omega
theorem depth_tup {n : Nat} {ds : List PyData} (h : ∀ d ∈ ds, d.depth ≤ n) : (PyData.tuple ds).depth ≤ n + 1 := by
  have := depth_all h
  show PyData.depthAll ds + 1 ≤ n + 1
  omega
theorem depth_str (s : Str) (n : Nat) : (PyData.str s).depth ≤ n + 1 := by show PyData.depth _ ≤ _; simp [PyData.depth]
theorem depth_int (i : Int) (n : Nat) : (PyData.int i).depth ≤ n + 1 := by show PyData.depth _ ≤ _; simp [PyData.depth]
theorem depth_ent {x : Str} {n : Nat} {g : Lf} {bs : List Str} : ∀ d ∈ entG (plcD x n) g bs, d.depth ≤ 4 := by
  intro d m
  unfold entG at m
  obtain ⟨q, _, rfl⟩ := List.mem_map.mp m
  refine depth_tup (n := 3) fun e me => ?_
  simp only [List.mem_cons, List.not_mem_nil, or_false] at me
  rcases me with rfl | rfl | rfl
  · refine depth_tup (n := 2) fun e me => ?_
    simp only [List.mem_cons, List.not_mem_nil, or_false] at me
    rcases me with rfl | rfl
    · exact depth_str _ 1
    · exact depth_int _ 1
  · exact depth_str _ 2
  · refine depth_tup (n := 2) fun e me => ?_
    rw [List.mem_singleton.mp me]
    exact depth_str _ 1
theorem depth_res {Y : Wy} {us : List Lf} {g : Lf} {n : Int} : PyData.depthAll (enY Y ++ [.int n, .tuple [], .tuple (finL Y g us)]) ≤ 63 := by
  refine Nat.le_trans (depth_all (n := 5) fun d m => ?_) (by decide)
  rcases List.mem_append.mp m with m | m
  · unfold enY at m
    split at m
    · simp only [List.mem_cons, List.not_mem_nil, or_false] at m
      rcases m with rfl | rfl
      · exact depth_str _ 4
      · exact depth_str _ 4
    · rw [List.mem_singleton.mp m]; exact depth_str _ 4
  · simp only [List.mem_cons, List.not_mem_nil, or_false] at m
    rcases m with rfl | rfl | rfl
    · exact depth_int _ 4
    · exact depth_tup (n := 4) fun e me => by cases me
    · refine depth_tup (n := 4) fun e me => ?_
      unfold finL at me
      rcases List.mem_append.mp me with me | me
      · rcases List.mem_append.mp me with me | me
        · split at me
          · exact depth_ent e me
          · cases me
        · exact depth_ent e me
      · obtain ⟨u, _, mu⟩ := List.mem_flatMap.mp me
        exact depth_ent e mu
end
end K13

set_option maxHeartbeats 4000000
namespace Kk
open PySem PySem.Spec PyProof.Rows L2
theorem tup_mul0 (l : Addr) (items : Array Value) (n : Nat) (dd : Option Addr) (sl : Array (Option Value)) (u : Tok) (c1 : items.isEmpty = false) :
    Meets (Builtin.«tuple.__mul__» ⟨[.ref l, .int 0 u], []⟩) (fun _ R s => s.heap.get? l = some { cls := .type "tuple", dict := dd, data := .seq items n, slots := sl } ∧
      R (.ok (.ret (Value.ref s.heap.objs.size))) { s with heap := s.heap.push { cls := Value.type "tuple", data := Data.seq #[] }, toks := s.toks }) :=
  .of_wp fun prog w A R s h => by
    obtain ⟨hp, g, d, tk, os⟩ := s
    obtain ⟨hl, h⟩ := h
    have f1 := AutoSeq1.idx_int
    wp_walk using wpAny_loadPart' hl
    exact ⟨_, rfl, h⟩
theorem tup_mul1 (l : Addr) (items : Array Value) (n : Nat) (dd : Option Addr) (sl : Array (Option Value)) (u : Tok) :
    Meets (Builtin.«tuple.__mul__» ⟨[.ref l, .int 1 u], []⟩) (fun _ R s => s.heap.get? l = some { cls := .type "tuple", dict := dd, data := .seq items n, slots := sl } ∧
      R (.ok (.ret (Value.ref l))) s) :=
  .of_wp fun prog w A R s h => by
    obtain ⟨hp, g, d, tk, os⟩ := s
    obtain ⟨hl, h⟩ := h
    have f1 := AutoSeq1.idx_int
    wp_walk using wpAny_loadPart' hl
    exact ⟨_, rfl, h⟩
/-- a tuple times 0, times 1 -/
def rRep01 (K : PySem.W.Frag) : R2 := fun x y H Q => ∃ l k xs, x = .ref l ∧ y = .int k ∧ SqT K H l xs ∧ xs ≠ [] ∧ ((k = 0 ∧ ∀ p, H p = none → Q (.ref p) (upd H p (.tup []))) ∨ (k = 1 ∧ Q (.ref l) H))
theorem op_rep01 {X : Cx} {K : PySem.W.Frag} (hK : X.K = K) : OpR X (binaryOp .Mult) (rRep01 K) := by
  subst hK
  intro pins s σ H x y v u Q I rx ry h
  obtain ⟨l, k, xs, rfl, rfl, hT, hne, h⟩ := h
  cases rx
  obtain ⟨t, rfl⟩ := ry
  obtain ⟨its, r, ⟨⟨cls, dd, data, sl⟩, ho, hc, n, hd⟩, hs⟩ := I.tuple hT
  simp only at hc hd
  subst hc hd
  have hle : its.length = xs.length := r.length.symm
  have hn : its ≠ [] := fun e => hne (by
    rw [e] at hle
    exact List.eq_nil_of_length_eq_zero hle.symm)
  have hi : its.toArray.isEmpty = false := by
    cases its with
    | nil => exact absurd rfl hn
    | cons a b => rfl
  rcases h with ⟨rfl, q⟩ | ⟨rfl, q⟩
  · refine wpAny_binaryOp_repeat_ref (T := "tuple") (U := "int") (by decide) ⟨_, ho, rfl⟩ (fun s' => typeIs_int s' 0 t) noFill_tuple_mul F.fills_int_mul F.slot_int_rmul repeat_tuple F.slot_int_index.lookup
      (call_meets F.slot_int_rmul (typeIs_int s 0 t) F.entry_int_rmul (F.args_int_rmul_2 _ _) (int_rmul_tuple 0 t l its.toArray n dd sl)
        ⟨ho, rfl, ⟨_, ho, rfl⟩, call_meets F.slot_tuple_mul ⟨_, ho, rfl⟩ F.entry_tuple_mul (F.args_tuple_mul_2 _ _) (tup_mul0 l its.toArray n dd sl t hi) ⟨ho, ?_⟩⟩)
    refine ⟨.ref s.heap.objs.size, _, I.laid (t' := s.toks) (o := .tup []) (fun b ob q => Heap.get?_push_of_some _ q) (Nat.le_refl _) ?_, rfl, q _ (I.hok.fresh (Nat.le_refl _))⟩
    exact ⟨Nat.zero_le _, [], .nil, IsTup.new _ _⟩
  · refine wpAny_binaryOp_repeat_ref (T := "tuple") (U := "int") (by decide) ⟨_, ho, rfl⟩ (fun s' => typeIs_int s' 1 t) noFill_tuple_mul F.fills_int_mul F.slot_int_rmul repeat_tuple F.slot_int_index.lookup
      (call_meets F.slot_int_rmul (typeIs_int s 1 t) F.entry_int_rmul (F.args_int_rmul_2 _ _) (int_rmul_tuple 1 t l its.toArray n dd sl)
        ⟨ho, rfl, ⟨_, ho, rfl⟩, call_meets F.slot_tuple_mul ⟨_, ho, rfl⟩ F.entry_tuple_mul (F.args_tuple_mul_2 _ _) (tup_mul1 l its.toArray n dd sl t) ⟨ho, ?_⟩⟩)
    exact ⟨.ref l, H, I, rfl, q⟩
theorem op_repTK {X : Cx} {K : PySem.W.Frag} (hK : X.K = K) : OpR X (binaryOp .Mult) (rRepT K) := by subst hK; exact op_repT
end Kk

namespace Kk
open PySem PySem.Spec PyProof.Rows L2
/-! the same data are equal -/
theorem yes_all (n : Nat) : (List.range n).all (fun _ => true) = true := by simp
theorem depth_get : ∀ {ds : List PyData} {i : Nat} {d : PyData}, ds[i]? = some d → d.depth ≤ PyData.depthAll ds
  | [], i, d, h => by simp at h
  | x :: xs, 0, d, h => by
    cases h
    show PyData.depth _ ≤ max (PyData.depth _) _
    omega
  | x :: xs, i + 1, d, h => by
    have := depth_get (ds := xs) (i := i) (by simpa using h)
    show d.depth ≤ max x.depth (PyData.depthAll xs)
    omega
theorem vals_at {xs : List V} {its : List Value} (r : Vals xs its) {j : Nat} (h : j < its.length) : ∃ x, xs[j]? = some x ∧ RelV x its[j] := by
  have hj : j < xs.length := by rw [r.length]; exact h
  obtain ⟨u, hu, ru⟩ := r.get (List.getElem?_eq_getElem hj)
  refine ⟨_, List.getElem?_eq_getElem hj, ?_⟩
  have := (List.getElem?_eq_some_iff.mp hu).2
  rw [this]; exact ru
section
variable {X : Cx} {pins : List (Addr × Obj)} {σ : L2.St} {H : Hp} {s : Shared}
theorem same_at (I : Inv X pins σ H s) : ∀ (n : Nat) (d : PyData) (A : Around) (x y : V) (v u : Value), d.depth ≤ n → A.units + n < cLine → Tp X.K H x d → Tp X.K H y d → RelV x v → RelV y u → SeqAt.EqAt A s v u true := by
  intro n
  induction n with
  | zero =>
    intro d A x y v u hd hu hx hy rx ry
    cases hx with
    | non => cases hy; cases rx; cases ry; exact SeqAt.EqAt.same _
    | bl b => cases hy; cases rx; cases ry; exact SeqAt.EqAt.same _
    | int i =>
      cases hy
      obtain ⟨t, rfl⟩ := rx
      obtain ⟨t', rfl⟩ := ry
      have := SeqAt.EqAt.int_int (A := A) (s := s) i t i t'
      rwa [beq_self_eq_true] at this
    | str z =>
      cases hy
      obtain ⟨t, rfl⟩ := rx
      obtain ⟨t', rfl⟩ := ry
      have := SeqAt.EqAt.str_str (A := A) (s := s) z t z t'
      rwa [beq_self_eq_true] at this
    | tup => exact absurd hd (by show ¬ (PyData.depthAll _ + 1 ≤ 0); omega)
  | succ n ih =>
    intro d A x y v u hd hu hx hy rx ry
    cases hx with
    | non => cases hy; cases rx; cases ry; exact SeqAt.EqAt.same _
    | bl b => cases hy; cases rx; cases ry; exact SeqAt.EqAt.same _
    | int i =>
      cases hy
      obtain ⟨t, rfl⟩ := rx
      obtain ⟨t', rfl⟩ := ry
      have := SeqAt.EqAt.int_int (A := A) (s := s) i t i t'
      rwa [beq_self_eq_true] at this
    | str z =>
      cases hy
      obtain ⟨t, rfl⟩ := rx
      obtain ⟨t', rfl⟩ := ry
      have := SeqAt.EqAt.str_str (A := A) (s := s) z t z t'
      rwa [beq_self_eq_true] at this
    | @tup a xs ds hs ha =>
      cases hy with
      | @tup b ys _ hs2 hb =>
        cases (show v = Value.ref a from rx)
        cases (show u = Value.ref b from ry)
        by_cases hab : a = b
        · rw [hab]; exact SeqAt.EqAt.same _
        · obtain ⟨its, r, pt, hz⟩ := I.tuple hs
          obtain ⟨its2, r2, pt2, hz2⟩ := I.tuple hs2
          have l1 : its.length = ds.length := by rw [← r.length, ha.len]
          have l2 : its2.length = ds.length := by rw [← r2.length, hb.len]
          have hd' : PyData.depthAll ds ≤ n := by
            have : PyData.depthAll ds + 1 ≤ n + 1 := hd
            omega
          have h1 := SeqAt.RcAt.tuples (A := A) (s := s) (e := fun _ => true) pt pt2 (by omega) (fun j h1 h2 => by
            have j1 : j < its.length := by simpa using h1
            have j2 : j < its2.length := by simpa using h2
            obtain ⟨x', ex, rx'⟩ := vals_at r j1
            obtain ⟨y', ey, ry'⟩ := vals_at r2 j2
            obtain ⟨dj, ed, tx⟩ := ha.get ex
            obtain ⟨dj2, ed2, ty⟩ := hb.get ey
            rw [ed] at ed2; cases ed2
            have := ih dj A.in1 x' y' _ _ (Nat.le_trans (depth_get ed) hd') (show A.units + 1 + n < cLine by omega) tx ty rx' ry'
            simpa using this)
          rw [yes_all] at h1
          have e : (its.toArray.size == its2.toArray.size) = true := by simp [l1, l2]
          rw [e] at h1
          exact SeqAt.EqAt.of_refs hab h1
end
section
variable {X : Cx} {K : PySem.W.Frag}
def rSameNe (K : PySem.W.Frag) : V → V → Hp → VK → Prop := fun x y H Q => ∃ d, Tp K H x d ∧ Tp K H y d ∧ d.depth ≤ 64 ∧ Q (.bl false) H
def rSameEq (K : PySem.W.Frag) : V → V → Hp → VK → Prop := fun x y H Q => ∃ d, Tp K H x d ∧ Tp K H y d ∧ d.depth ≤ 64 ∧ Q (.bl true) H
theorem op_neSame (h : X.K = K) (hu : X.A.units + 64 < cLine) : OpR X (compareOp .NotEq) (rSameNe K) := by
  subst h
  intro pins s σ H x y v u Q I rx ry h
  obtain ⟨d, hx, hy, hd, q⟩ := h
  have I0 := I
  cases hx with
  | non =>
    cases hy; cases rx; cases ry
    exact SeqAt.RcNeAt.none_none X.prog X.w X.xe _ ⟨.bl false, H, I, rfl, q⟩
  | bl b =>
    cases hy; cases rx; cases ry
    refine SeqAt.RcNeAt.bool_bool b b X.prog X.w X.xe _ ⟨.bl false, H, I, ?_, q⟩
    rw [beq_self_eq_true]; rfl
  | int i =>
    cases hy
    obtain ⟨t, rfl⟩ := rx
    obtain ⟨t', rfl⟩ := ry
    refine SeqAt.RcNeAt.int_int i t i t' X.prog X.w X.xe _ ⟨.bl false, H, I, ?_, q⟩
    rw [beq_self_eq_true]; rfl
  | str z =>
    cases hy
    obtain ⟨t, rfl⟩ := rx
    obtain ⟨t', rfl⟩ := ry
    refine SeqAt.RcNeAt.str_str z t z t' X.prog X.w X.xe _ ⟨.bl false, H, I, ?_, q⟩
    rw [beq_self_eq_true]; rfl
  | @tup a xs ds hs ha =>
    cases hy with
    | @tup b ys _ hs2 hb =>
      cases (show v = Value.ref a from rx)
      cases (show u = Value.ref b from ry)
      obtain ⟨its, r, pt, hz⟩ := I.tuple hs
      obtain ⟨its2, r2, pt2, hz2⟩ := I.tuple hs2
      have l1 : its.length = ds.length := by rw [← r.length, ha.len]
      have l2 : its2.length = ds.length := by rw [← r2.length, hb.len]
      have hd' : PyData.depthAll ds ≤ 63 := by
        have : PyData.depthAll ds + 1 ≤ 64 := hd
        omega
      refine SeqAt.RcNeAt.tuples (e := fun _ => true) pt pt2 (by omega) (fun j h1 h2 => ?_) X.prog X.w X.xe _ ⟨.bl false, H, I, ?_, q⟩
      · have j1 : j < its.length := by simpa using h1
        have j2 : j < its2.length := by simpa using h2
        obtain ⟨x', ex, rx'⟩ := vals_at r j1
        obtain ⟨y', ey, ry'⟩ := vals_at r2 j2
        obtain ⟨dj, ed, tx⟩ := ha.get ex
        obtain ⟨dj2, ed2, ty⟩ := hb.get ey
        rw [ed] at ed2; cases ed2
        have := same_at I0 63 dj X.A.in1 x' y' _ _ (Nat.le_trans (depth_get ed) hd') (show X.A.units + 1 + 63 < cLine by omega) tx ty rx' ry'
        simpa using this
      · rw [yes_all]
        have e : (its.toArray.size == its2.toArray.size) = true := by simp [l1, l2]
        rw [e]; rfl
theorem op_eqSame (h : X.K = K) (hu : X.A.units + 64 < cLine) : OpR X (compareOp .Eq) (fun x y H Q => ∃ a b ds xs ys, x = .ref a ∧ y = .ref b ∧ SqT K H a xs ∧ SqT K H b ys ∧ TpAll K H xs ds ∧ TpAll K H ys ds ∧ PyData.depthAll ds ≤ 63 ∧ Q (.bl true) H) := by
  subst h
  intro pins s σ H x y v u Q I rx ry h
  obtain ⟨a, b, ds, xs, ys, rfl, rfl, hs, hs2, ha, hb, hd', q⟩ := h
  cases (show v = Value.ref a from rx)
  cases (show u = Value.ref b from ry)
  obtain ⟨its, r, pt, hz⟩ := I.tuple hs
  obtain ⟨its2, r2, pt2, hz2⟩ := I.tuple hs2
  have l1 : its.length = ds.length := by rw [← r.length, ha.len]
  have l2 : its2.length = ds.length := by rw [← r2.length, hb.len]
  refine SeqAt.eq_tupleAt (e := fun _ => true) pt pt2 (by omega) (fun j h1 h2 => ?_) ⟨.bl true, H, I, ?_, q⟩
  · have j1 : j < its.length := by simpa using h1
    have j2 : j < its2.length := by simpa using h2
    obtain ⟨x', ex, rx'⟩ := vals_at r j1
    obtain ⟨y', ey, ry'⟩ := vals_at r2 j2
    obtain ⟨dj, ed, tx⟩ := ha.get ex
    obtain ⟨dj2, ed2, ty⟩ := hb.get ey
    rw [ed] at ed2; cases ed2
    have := same_at I 63 dj X.A.in1 x' y' _ _ (Nat.le_trans (depth_get ed) hd') (show X.A.units + 1 + 63 < cLine by omega) tx ty rx' ry'
    simpa using this
  · rw [yes_all]
    have e : (its.toArray.size == its2.toArray.size) = true := by simp [l1, l2]
    rw [e]; rfl
/-- a tuple held against () -/
theorem op_neNilT (h : X.K = K) (hu : X.A.units + 64 < cLine) : OpR X (compareOp .NotEq) (fun x y H Q => ∃ a b xs, x = .ref a ∧ y = .ref b ∧ SqT K H a xs ∧ SqT K H b [] ∧ Q (.bl (!xs.isEmpty)) H) := by
  subst h
  intro pins s σ H x y v u Q I rx ry h
  obtain ⟨a, b, xs, rfl, rfl, ha, hb, q⟩ := h
  cases (show v = Value.ref a from rx)
  cases (show u = Value.ref b from ry)
  obtain ⟨its, r, pt, hz⟩ := I.tuple ha
  obtain ⟨its2, r2, pt2, hz2⟩ := I.tuple hb
  cases r2
  refine SeqAt.RcNeAt.tuples (e := fun _ => true) pt pt2 (by omega) (fun j h1 h2 => absurd h2 (Nat.not_lt_zero j)) X.prog X.w X.xe _ ⟨.bl (!xs.isEmpty), H, I, ?_, q⟩
  rw [yes_all]
  cases r with
  | nil => rfl
  | cons _ _ => simp; rfl
end
end Kk

set_option maxHeartbeats 4000000
namespace K13
open PySem PySem.Spec PyProof.Rows L2 Kk RZ
theorem mergeK_cons (acc : List (Key × V)) (kv : Key × V) (kvs : List (Key × V)) : mergeK acc (kv :: kvs) = mergeK (putK acc kv.1 kv.2) kvs := rfl
theorem mergeK_no : ∀ (kvs acc : List (Key × V)) (k : Key), ¬ k ∈ kvs.map (·.1) → valV (mergeK acc kvs) k = valV acc k
  | [], _, _, _ => rfl
  | kv :: kvs, acc, k, h => by
    rw [List.map_cons, List.mem_cons, not_or] at h
    rw [mergeK_cons, mergeK_no kvs _ k h.2, valV_put, if_neg h.1]
theorem mergeK_val : ∀ (kvs acc : List (Key × V)) (k : Key), k ∈ kvs.map (·.1) → ∃ v, valV (mergeK acc kvs) k = some v ∧ v ∈ kvs.map (·.2)
  | [], _, _, h => by cases h
  | kv :: kvs, acc, k, h => by
    by_cases m : k ∈ kvs.map (·.1)
    · obtain ⟨v, e1, e2⟩ := mergeK_val kvs (putK acc kv.1 kv.2) k m
      exact ⟨v, e1, List.mem_cons_of_mem _ e2⟩
    · rw [List.map_cons, List.mem_cons] at h
      rcases h with h | h
      · refine ⟨kv.2, ?_, List.mem_cons_self⟩
        rw [mergeK_cons, mergeK_no kvs _ k m, valV_put, if_pos h]
      · exact absurd h m
/-! what the law keeps of each frame -/
def FvH (K : PySem.W.Frag) (ms : List Addr) (H : Hp) (v : V) (b : Lb) : Prop := ∃ o bl wd rv, v = .ref o ∧ SqT K H o [.str b.g.nm, .ref bl, .ref wd, .int (b.g.bs.length : Nat), rv] ∧ H bl = some (.lst (b.g.bs.map V.str)) ∧ WdH H wd b.g.wf b.g.bs ∧ Tp K H rv (rowD b.r) ∧ bl ∉ ms ∧ wd ∉ ms
theorem FvH.ex {K : PySem.W.Frag} {ms xs : List Addr} {H H' : Hp} {v : V} {b : Lb} (h : FvH K ms H v b) (e : Ex xs H H') (s : ∀ x ∈ xs, x ∈ ms) : FvH K ms H' v b := by
  obtain ⟨o, bl, wd, rv, h1, h2, h3, h4, h5, h6, h7⟩ := h
  exact ⟨o, bl, wd, rv, h1, e.seqT h2, e.lst h3 (fun m => h6 (s _ m)), h4.ex e (fun m => h7 (s _ m)), h5.ex e, h6, h7⟩
theorem FvH.more {K : PySem.W.Frag} {ms : List Addr} {H : Hp} {v : V} {b : Lb} {c : Addr} (h : FvH K ms H v b) (n : H c = none) : FvH K (c :: ms) H v b := by
  obtain ⟨o, bl, wd, rv, h1, h2, h3, h4, h5, h6, h7⟩ := h
  refine ⟨o, bl, wd, rv, h1, h2, h3, h4, h5, fun m => ?_, fun m => ?_⟩
  · rcases List.mem_cons.mp m with e | e
    · rw [e, n] at h3; cases h3
    · exact h6 e
  · rcases List.mem_cons.mp m with e | e
    · obtain ⟨kvs, w1, _⟩ := h4
      rw [e, n] at w1; cases w1
    · exact h7 e
abbrev s_law : Stmt := topS 46
abbrev n_law : List Str := ["_law_script", "_law_deck_here", "_law_names_here", "_law_many", "_law_way", "_law_defs", "_law_frames", "_law_k", "_law_boxes", "_law_worths", "_law_row", "_law_name", "_law_program", "_law_takes", "_law_answers", "_law_due", "_law_calls", "_law_gone", "_law_place", "_law_steps", "_law_end", "_law_box", "_law_frame"]
theorem sc_law : FnScope n_law ["_law_script"] (defScope s_law) := ⟨rfl, rfl, rfl, by decide +kernel, rfl, by decide +kernel, by decide +kernel⟩
theorem ix_listK {X : Cx} {K : PySem.W.Frag} (h : X.K = K) : IxR X (rIxL K) := by subst h; exact ix_list
theorem call_dictK {X : Cx} {K : PySem.W.Frag} (hK : X.K = K) (hc : X.calm = true) : CallR X (.type "dict") (fun xs H Q => ∃ (a : Addr) (ps : List Addr) (kvs : List (Key × V)), xs = [.ref a] ∧ SqL K H a (ps.map V.ref) ∧ Paired (fun p kv => SqT K H p [kV kv.1, kv.2]) ps kvs ∧
    ∀ p, H p = none → Q (.ref p) (upd H p (.dK (mergeK [] kvs)))) := by subst hK; exact call_dictP hc
section
variable {P : Program} {w : World} {K : PySem.W.Frag} {mg : Str → Option Value} {base : Heap}
theorem tp_take {H : Hp} : ∀ {xs : List V} {ds : List PyData}, TpAll K H xs ds → ∀ n, TpAll K H (xs.take n) (ds.take n)
  | _, _, _, 0 => by rw [List.take_zero, List.take_zero]; exact .nil
  | _, _, .nil, n + 1 => .nil
  | _, _, .cons h t, n + 1 => .cons h (tp_take t n)
theorem ints_inv {H : Hp} : ∀ {xs : List V} {ns : List Int}, TpAll K H xs (ns.map PyData.int) → xs = ns.map V.int
  | _, [], h => by cases h; rfl
  | _, n :: ns, h => by
    cases h with
    | cons a b => cases a; rw [ints_inv b]; rfl
theorem tp_last {H : Hp} : ∀ {xs : List V} {ds : List PyData} {d : PyData}, TpAll K H xs (ds ++ [d]) → ∃ xs' x, xs = xs' ++ [x] ∧ Tp K H x d
  | _, [], d, h => by
    cases h with
    | cons a b => cases b; exact ⟨[], _, rfl, a⟩
  | _, e :: ds, d, h => by
    cases h with
    | cons a b =>
      obtain ⟨xs', x, rfl, hx⟩ := tp_last b
      exact ⟨_ :: xs', x, rfl, hx⟩
theorem row_cat {H : Hp} {a b : Addr} {A B : List Wo} {Q : VK} (ta : Tp K H (.ref a) (rowD A)) (tb : Tp K H (.ref b) (rowD B)) (hl : A.length + B.length ≤ 1000) (q : ∀ p H', Ex [] H H' → Tp K H' (.ref p) (rowD (A ++ B)) → Q (.ref p) H') : rCatA K (.ref a) (.ref b) H Q := by
  obtain ⟨a', xs, e1, hs, ha⟩ := row_in ta
  obtain ⟨b', ys, e2, ht, hb⟩ := row_in tb
  cases e1
  cases e2
  refine tp_cat hs ht ha hb (by rw [List.length_map, List.length_map]; exact hl) fun p H' zs x hs' ht' => q p H' x (.tup hs' ?_)
  rw [List.map_append]; exact ht'
/-- a frame put to the others -/
def tC (K : PySem.W.Frag) : TS := fun D σ H => ∃ (v0 y11 : Option V) (d nl dl fl bl wd rt : Addr) (ns : List Str) (many i : Nat) (way : Int) (bs : List Str) (wf : Str → Str) (r : List Wo) (fvs dvs : List V), σ = [v0, some (.ref d), some (.ref nl), some (.int many), some (.int way), some (.ref dl), some (.ref fl), some (.int (0 + (i : Int))), some (.ref bl), some (.ref wd), some (.ref rt), y11, none, none, none, none, none, none, none, none, none, none, none] ∧
  H nl = some (.lst (ns.map V.str)) ∧ ns.length = 17 ∧ i ≤ many ∧ many ≤ 6 ∧ H bl = some (.lst (bs.map V.str)) ∧ WdH H wd wf bs ∧ Tp K H (.ref rt) (rowD r) ∧ H fl = some (.lst fvs) ∧ H dl = some (.lst dvs) ∧ fvs.length ≤ 100 ∧ dvs.length ≤ 100 ∧ fl ≠ dl ∧ bl ≠ fl ∧ bl ≠ dl ∧ wd ≠ fl ∧ wd ≠ dl ∧ bl ≠ d ∧ wd ≠ d ∧
  ∀ H' y11' fv dv, Ex [fl, dl] H H' → H' fl = some (.lst (fvs ++ [fv])) → FvH K [d, fl, dl] H' fv ⟨⟨nmK ns many i, bs, wf⟩, r⟩ → H' dl = some (.lst (dvs ++ [dv])) → Tp K H' dv (defD (dfB ⟨⟨nmK ns many i, bs, wf⟩, r⟩)) → D.nx [v0, some (.ref d), some (.ref nl), some (.int many), some (.int way), some (.ref dl), some (.ref fl), some (.int (0 + (i : Int))), some (.ref bl), some (.ref wd), some (.ref rt), y11', none, none, none, none, none, none, none, none, none, none, none] H'
/-- what one frame leaves at a place, put to what is due -/
def tF (K : PySem.W.Frag) : TS := fun D σ H => ∃ (v0 v1 v2 v3 v4 v5 v6 v7 v10 v11 y12 y13 y14 v16 : Option V) (du bl wd gn tp : Addr) (n : Nat) (g : Lf) (gs : List Str) (xs : List V) (ds0 : List PyData), σ = [v0, v1, v2, v3, v4, v5, v6, v7, some (.ref bl), some (.ref wd), v10, v11, y12, y13, y14, some (.ref du), v16, some (.ref gn), some (.ref tp), none, none, none, none] ∧
  H bl = some (.lst (g.bs.map V.str)) ∧ WdH H wd g.wf g.bs ∧ H tp = some (.tup [.str g.nm, .int (n : Nat)]) ∧ H gn = some (.lst (gs.map V.str)) ∧ H du = some (.lst xs) ∧ TpAll K H xs ds0 ∧ ds0.length ≤ 1000 ∧ g.bs.length < 64 ∧ bl ≠ du ∧ wd ≠ du ∧ gn ≠ du ∧
  ∀ H' xs', Ex [du] H H' → H' du = some (.lst xs') → TpAll K H' xs' (ds0 ++ entG (plcD g.nm n) g (g.bs.filter fun q => decide (¬ q ∈ gs))) → D.nx [v0, v1, v2, v3, v4, v5, v6, v7, some (.ref bl), some (.ref wd), v10, v11, y12, y13, y14, some (.ref du), v16, some (.ref gn), some (.ref tp), none, none, none, none] H'
/-- what one frame leaves, put to what is due -/
def tE (K : PySem.W.Frag) : TS := fun D σ H => ∃ (v0 v1 v2 v3 v5 v6 y12 y13 y14 y18 : Option V) (du bl wd gn : Addr) (rv : V) (way : Int) (i : Nat) (g : Lf) (r : List Wo) (gs : List Str) (xs : List V) (ds0 : List PyData), σ = [v0, v1, v2, v3, some (.int way), v5, v6, some (.int (i : Nat)), some (.ref bl), some (.ref wd), some rv, some (.str g.nm), y12, y13, y14, some (.ref du), some (.int (g.bs.length : Nat)), some (.ref gn), y18, none, none, none, none] ∧
  H bl = some (.lst (g.bs.map V.str)) ∧ WdH H wd g.wf g.bs ∧ Tp K H rv (rowD r) ∧ H gn = some (.lst (gs.map V.str)) ∧ H du = some (.lst xs) ∧ TpAll K H xs ds0 ∧ ds0.length ≤ 1000 ∧ g.bs.length < 64 ∧ bl ≠ du ∧ wd ≠ du ∧ gn ≠ du ∧
  ∀ H' y18' xs', Ex [du] H H' → H' du = some (.lst xs') → TpAll K H' xs' (ds0 ++ entG (plcD g.nm (if (i = 0 ∧ way > 2) ∨ (i > 0 ∧ way > 1) then r.length else g.bs.length)) g (g.bs.filter fun q => decide (¬ q ∈ gs))) → D.nx [v0, v1, v2, v3, some (.int way), v5, v6, some (.int (i : Nat)), some (.ref bl), some (.ref wd), some rv, some (.str g.nm), y12, y13, y14, some (.ref du), some (.int (g.bs.length : Nat)), some (.ref gn), y18', none, none, none, none] H'
theorem FvH.less {K : PySem.W.Frag} {ms : List Addr} {H : Hp} {v : V} {b : Lb} (h : FvH K ms H v b) : FvH K [] H v b := by
  obtain ⟨o, bl, wd, rv, h1, h2, h3, h4, h5, h6, h7⟩ := h
  exact ⟨o, bl, wd, rv, h1, h2, h3, h4, h5, by simp, by simp⟩
/-- once the program and its answers are there -/
def tG (K : PySem.W.Frag) : TS := fun D σ H => ∃ (v0 v1 v3 v5 y7 y8 y9 y10 y11 y13 : Option V) (nl fl pg an : Addr) (ns : List Str) (many : Nat) (way : Int) (E : List Wo) (Bs : List Lb) (fvs : List V) (a : Int), σ = [v0, v1, some (.ref nl), v3, some (.int way), v5, some (.ref fl), y7, y8, y9, y10, y11, some (.ref pg), y13, some (.ref an), none, none, none, none, none, none, none, none] ∧
  H nl = some (.lst (ns.map V.str)) ∧ BokN ns many ∧ 0 ≤ way ∧ way < 5 ∧ Bs.length = many + 1 ∧ Bok ns many way ((ns[9]?).getD emp) E Bs ∧ H fl = some (.lst fvs) ∧ P2 (FvH K [] H) fvs Bs ∧ Tp K H (.ref pg) (pgD (dsB Bs many) (wsB Bs many)) ∧ SqT K H an (xsB a (nT (lfB Bs)) way) ∧ 0 ≤ a ∧ a < 10000 ∧
  ∀ H', D.rt (.bl true) H'
/-- once the frames are built -/
def tB (K : PySem.W.Frag) : TS := fun D σ H => ∃ (v0 y7 y8 y9 y10 y11 : Option V) (d nl dl fl : Addr) (ns : List Str) (many : Nat) (way : Int) (E : List Wo) (Bs : List Lb) (fvs dvs : List V), σ = [v0, some (.ref d), some (.ref nl), some (.int many), some (.int way), some (.ref dl), some (.ref fl), y7, y8, y9, y10, y11, none, none, none, none, none, none, none, none, none, none, none] ∧
  Deck H d ∧ H nl = some (.lst (ns.map V.str)) ∧ nl ≠ d ∧ ns.length = 17 ∧ (∀ z ∈ ns, NmG z) ∧ ns.Nodup ∧ 1 ≤ many ∧ many ≤ 6 ∧ 0 ≤ way ∧ way < 5 ∧ Bs.length = many + 1 ∧ Bok ns many way ((ns[9]?).getD emp) E Bs ∧ H fl = some (.lst fvs) ∧ P2 (FvH K [d, fl, dl] H) fvs Bs ∧ H dl = some (.lst dvs) ∧ TpAll K H dvs (Bs.map fun b => defD (dfB b)) ∧ fl ≠ d ∧ dl ≠ d ∧ fl ≠ dl ∧ nl ≠ fl ∧ nl ≠ dl ∧
  ∀ H', D.rt (.bl true) H'
def spLaw (K : PySem.W.Frag) : Sp := fun vs H Q _ => ∃ (s : Addr) (ns : List Int), vs = [.ref s] ∧ SqL K H s (ns.map V.int) ∧ ∀ H', Q (.bl true) H'
theorem ok_law {f f1 f2 f3 f4 f5 f6 f7 f8 : Addr} {fd d1 d2 d3 d4 d5 d6 d7 d8 : FuncData} {k : Nat} (F : Fun K "law" "law" s_law f fd)
    (C__law_deck : Cl P w K mg base k "_law_deck" ["_law_script"] (spDeck K) f1 d1) (C__law_draw : Cl P w K mg base k "_law_draw" ["_law_deck_here", "_law_most"] spDraw f2 d2)
    (C__law_some : Cl P w K mg base k "_law_some" ["_law_deck_here", "_law_few", "_law_most"] spSome f3 d3) (C__law_names : Cl P w K mg base k "_law_names" ["_law_deck_here", "_law_many"] spNames f4 d4)
    (C__law_boxes_of : Cl P w K mg base k "_law_boxes_of" ["_law_deck_here", "_law_names_here"] spLBoxes f5 d5) (C__law_end_words : Cl P w K mg base k "_law_end_words" ["_law_deck_here", "_law_way", "_law_boxes", "_law_fault"] (spEndW K) f6 d6)
    (C__law_entries : Cl P w K mg base k "_law_entries" ["_law_place", "_law_boxes", "_law_worths"] (spEntr K) f7 d7) (C_run : Cl P w K mg base k "run" ["program", "answers", "most"] (spRun K flatG) f8 d8)
    (m_range : mg "range" = none) (m_dict : mg "dict" = none) (m_tuple : mg "tuple" = none) (m_int : mg "int" = none) (m_len : mg "len" = none) (m_sum : mg "sum" = none) (m_enumerate : mg "enumerate" = none) (m_list : mg "list" = none) :
    FnOk P w K mg base CX0 (k + 1) f fd ["_law_script"] (spLaw K) := by
  refine F.ok sc_law (fun vs H Q E h => ?_) (fun cdv A outer s H vs Q E hr h => ?_)
  · obtain ⟨s, ns, rfl, _⟩ := h; rfl
  · obtain ⟨sc, ns0, rfl, hS, q⟩ := h
    refine ⟨_, (pss_cons (ps_set (i := 1) sc_law.nd rfl (.inr rfl) (pe_call C__law_deck.g hr (by rfl) C__law_deck.m C__law_deck.k C__law_deck.b .nil pass0 (pa_cons (pv 0) pa_nil)))
      (pss_cons (ps_set (i := 2) sc_law.nd rfl (.inr rfl) (pe_call C__law_names.g hr (by rfl) C__law_names.m C__law_names.k C__law_names.b .nil pass0 (pa_cons (pv 1) (pa_cons pe_int pa_nil))))
      (pss_cons (ps_set (i := 3) sc_law.nd rfl (.inl rfl) (pe_op op_add pe_int (pe_call C__law_some.g hr (by rfl) C__law_some.m C__law_some.k C__law_some.b .nil pass0 (pa_cons (pv 1) (pa_cons pe_int (pa_cons pe_int pa_nil))))))
      (pss_cons (ps_set (i := 4) sc_law.nd rfl (.inl rfl) (pe_call C__law_draw.g hr (by rfl) C__law_draw.m C__law_draw.k C__law_draw.b .nil pass0 (pa_cons (pv 1) (pa_cons pe_int pa_nil))))
      (pss_cons (ps_set (i := 5) sc_law.nd rfl (.inl rfl) (pe_lst pa_nil))
      (pss_cons (ps_set (i := 6) sc_law.nd rfl (.inl rfl) (pe_lst pa_nil))
      (pss_cons (ps_for PassesOwn.never rfl (pi_range1 (by rfl) m_range (pa_cons (pe_op op_add (pv 3) pe_int) pa_nil)) (pg_name (i := 7) sc_law.nd rfl (.inl rfl)) (pss_cons (ps_set (i := 8) sc_law.nd rfl (.inl rfl) (pe_call C__law_boxes_of.g hr (by rfl) C__law_boxes_of.m C__law_boxes_of.k C__law_boxes_of.b .nil pass0 (pa_cons (pv 1) (pa_cons (pv 2) pa_nil))))
      (pss_cons (ps_set (i := 9) sc_law.nd rfl (.inr rfl) (pe_callTy (call_dictK (K := K) rfl rfl) (by rfl) m_dict (by decide +kernel) (pa_cons (pe_lc (own := [("_law_box", 21)]) (g := gName 21) (tt := tYes) rfl sc_law.nd (pi_list (pv 8)) (blkOk_by (N := n_law) (sc := defScope s_law) (by decide +kernel)) (fun _ _ _ _ _ => pg_name (i := 21) sc_law.nd rfl (Or.inl rfl)) (fun _ _ _ _ _ => pts_nil) (fun _ _ _ _ _ => (pe_tup (pa_cons (pv 21) (pa_cons (pe_ix (ix_listK (K := K) rfl) (pv 2) (pe_op op_add pe_int (pe_call C__law_draw.g hr (by rfl) C__law_draw.m C__law_draw.k C__law_draw.b .nil pass0 (pa_cons (pv 1) (pa_cons pe_int pa_nil)))) (fun _ _ => rfl)) pa_nil))))) pa_nil)))
      (pss_cons (ps_set (i := 10) sc_law.nd rfl (.inl rfl) (pe_callTy call_tuple_of (by rfl) m_tuple (by decide +kernel) (pa_cons (pe_lc (own := [("_law_box", 21)]) (g := gName 21) (tt := tYes) rfl sc_law.nd (pi_list (pv 8)) (blkOk_by (N := n_law) (sc := defScope s_law) (by decide +kernel)) (fun _ _ _ _ _ => pg_name (i := 21) sc_law.nd rfl (Or.inl rfl)) (fun _ _ _ _ _ => pts_nil) (fun _ _ _ _ _ => (pe_tup (pa_cons pe_str (pa_cons (pv 21) (pa_cons (pe_dget (hu_of hr) (pv 9) (pv 21) (fun _ _ => rfl)) pa_nil)))))) pa_nil)))
      (pss_cons (ps_if (pt_cmpR op_eq (pv 7) pe_int (nomark _)) (pss_one (ps_set (i := 10) sc_law.nd rfl (.inl rfl) (pe_op op_catA (pv 10) (pe_call C__law_end_words.g hr (by rfl) C__law_end_words.m C__law_end_words.k C__law_end_words.b .nil pass0 (pa_cons (pv 1) (pa_cons (pv 4) (pa_cons (pv 8) (pa_cons (pe_ix ix_list (pv 2) pe_int (fun _ _ => rfl)) pa_nil)))))))) (pss_one (ps_set (i := 10) sc_law.nd rfl (.inl rfl) (pe_op op_catA (pv 10) (pe_tup (pa_cons (pe_tup (pa_cons pe_str (pa_cons (pe_ix ix_list (pv 2) (pe_op op_add pe_int (pv 7)) (fun _ _ => rfl)) (pa_cons (pe_tup pa_nil) (pa_cons (pe_tup pa_nil) pa_nil))))) pa_nil))))))
      (pss_by (t' := tC K) (pss_cons (ps_set (i := 11) sc_law.nd rfl (.inl rfl) (pe_ix ix_list (pe_lst (pa_cons (pe_ix ix_list (pv 2) (pe_op op_add pe_int (pv 7)) (fun _ _ => rfl)) (pa_cons pe_str pa_nil))) (pe_callTy call_int1 (by rfl) m_int (by decide +kernel) (pa_cons (pe_cmpR op_eq (pv 7) (pv 3) (nomark _)) pa_nil)) (fun _ _ => rfl)))
      (pss_cons (ps_expr (pe_bm PySem.F.plainAttrs_list PySem.F.slot_list_append PySem.F.type_list_append mt_append (pv 6) (pa_cons (pe_tup (pa_cons (pv 11) (pa_cons (pv 8) (pa_cons (pv 9) (pa_cons (pe_callB call_len_seq (by rfl) m_len PySem.boot_len (pa_cons (pv 8) pa_nil)) (pa_cons (pv 10) pa_nil)))))) pa_nil)))
      (pss_one (ps_expr (pe_bm PySem.F.plainAttrs_list PySem.F.slot_list_append PySem.F.type_list_append mt_append (pv 5) (pa_cons (pe_tup (pa_cons (pv 11) (pa_cons (pe_tup pa_nil) (pa_cons (pe_tup pa_nil) (pa_cons (pv 10) pa_nil))))) pa_nil)))))) (by
          rintro D σ H ⟨v0, y11, d, nl, dl, fl, bl, wd, rt, ns, many, i, way, bs, wf, r, fvs, dvs, rfl, hnl, lns, im, m6, hbl, hwd, trt, hfl, hdl, lf, ldv, fd1, b1, b2, w1, w2, b3, w3, q⟩
          have eat : i < many → atI (ns.map V.str) ((fun i j : Int => i + j) 10 (0 + (i : Int))) = some (.str (nmK ns many i)) := fun lt => by
            have e0 : (fun i j : Int => i + j) 10 (0 + (i : Int)) = ((10 + i : Nat) : Int) := by show (10 : Int) + (0 + i) = _; omega
            rw [e0]
            refine atN ?_
            have hl : 10 + i < ns.length := by omega
            rw [List.getElem?_map, List.getElem?_eq_getElem hl]
            unfold nmK
            rw [if_neg (by omega), List.getElem?_eq_getElem hl]; rfl
          have eat2 : ∃ x, atI (ns.map V.str) ((fun i j : Int => i + j) 10 (0 + (i : Int))) = some (.str x) ∧ (i < many → x = nmK ns many i) := by
            have e0 : (fun i j : Int => i + j) 10 (0 + (i : Int)) = ((10 + i : Nat) : Int) := by show (10 : Int) + (0 + i) = _; omega
            have hl : 10 + i < ns.length := by omega
            refine ⟨ns[10 + i], ?_, fun lt => ?_⟩
            · rw [e0]
              refine atN ?_
              rw [List.getElem?_map, List.getElem?_eq_getElem hl]; rfl
            · unfold nmK
              rw [if_neg (by omega), List.getElem?_eq_getElem hl]; rfl
          obtain ⟨x10, ex10, hx10⟩ := eat2
          refine ⟨.ref nl, rfl, .int (0 + (i : Int)), rfl, 10, _, rfl, rfl, nl, _, _, _, rfl, rfl, .of hnl, ex10, l2, fun p np => ?_⟩
          have xp : Ex [] H (upd H p (.lst [.str x10, .str emp])) := .new np
          have hp : (upd H p (.lst [.str x10, .str emp])) p = some (.lst [.str x10, .str emp]) := upd_same
          have ep : upd H p (.lst [.str x10, .str emp]) = upd H p (.lst [.str x10, .str (Str.ofString "")]) := rfl
          rw [← ep]
          generalize upd H p (.lst [.str x10, .str emp]) = H1 at xp hp ⊢
          have key : atI [V.str x10, .str emp] (if decide (V.int (0 + (i : Int)) = V.int (many : Int)) = true then 1 else 0) = some (.str (nmK ns many i)) := by
            by_cases e : i = many
            · rw [decide_eq_true (show V.int (0 + (i : Int)) = V.int (many : Int) by rw [e]; congr 1; omega), if_pos rfl]
              unfold nmK
              rw [if_pos e]; exact at1
            · rw [decide_eq_false (fun z => e (by have := V.int.inj z; omega)), if_neg (by decide), ← hx10 (by omega)]; exact at0
          refine ⟨.int (0 + (i : Int)), rfl, .int many, rfl, rfl, .inr ⟨_, rfl, p, _, _, _, rfl, rfl, .of hp, key, ?_⟩⟩
          have hfl1 := xp.lst hfl
          have hdl1 := xp.lst hdl
          have hbl1 := xp.lst hbl
          refine ⟨.ref fl, rfl, .inl ⟨rfl, _, .of hfl1⟩, .str (nmK ns many i), rfl, .ref bl, rfl, .ref wd, rfl, .ref bl, rfl, bl, _, rfl, .inl (.of hbl1), .ref rt, rfl, (by show 5 ≤ sizeLine; decide), fun o no => ?_⟩
          rw [List.length_map]
          have xo : Ex [] H1 (upd H1 o (.tup [.str (nmK ns many i), .ref bl, .ref wd, .int (bs.length : Nat), .ref rt])) := .new no
          have ho : (upd H1 o (.tup [.str (nmK ns many i), .ref bl, .ref wd, .int (bs.length : Nat), .ref rt])) o = some (.tup [.str (nmK ns many i), .ref bl, .ref wd, .int (bs.length : Nat), .ref rt]) := upd_same
          generalize upd H1 o (.tup [.str (nmK ns many i), .ref bl, .ref wd, .int (bs.length : Nat), .ref rt]) = H2 at xo ho ⊢
          have hfl2 := xo.lst hfl1
          refine ⟨fl, fvs, _, rfl, rfl, hfl2, by rw [sizeLine_eq]; omega, ?_⟩
          have x3 : Ex [fl] H2 (upd H2 fl (.lst (fvs ++ [.ref o]))) := .put hfl2 nt_lst (by simp)
          have hfl3 : (upd H2 fl (.lst (fvs ++ [.ref o]))) fl = some (.lst (fvs ++ [.ref o])) := upd_same
          generalize upd H2 fl (.lst (fvs ++ [.ref o])) = H3 at x3 hfl3 ⊢
          have hdl3 : H3 dl = some (.lst dvs) := x3.lst (xo.lst hdl1) (by simpa using fd1.symm)
          refine ⟨.ref dl, rfl, .inl ⟨rfl, _, .of hdl3⟩, .str (nmK ns many i), rfl, l0, fun t1 n1 => ⟨l0, fun t2 n2 => ⟨.ref rt, rfl, (by show 4 ≤ sizeLine; decide), fun o2 no2 => ?_⟩⟩⟩
          have y1 : Ex [] H3 (upd H3 t1 (.tup [])) := .new n1
          have y2 : Ex [] (upd H3 t1 (.tup [])) (upd (upd H3 t1 (.tup [])) t2 (.tup [])) := .new n2
          have y3 : Ex [] (upd (upd H3 t1 (.tup [])) t2 (.tup [])) (upd (upd (upd H3 t1 (.tup [])) t2 (.tup [])) o2 (.tup [.str (nmK ns many i), .ref t1, .ref t2, .ref rt])) := .new no2
          have h1 := y3.tup (y2.tup (upd_same (H := H3) (a := t1) (o := .tup [])))
          have h2 := y3.tup (upd_same (H := upd H3 t1 (.tup [])) (a := t2) (o := .tup []))
          have h3 : (upd (upd (upd H3 t1 (.tup [])) t2 (.tup [])) o2 (.tup [.str (nmK ns many i), .ref t1, .ref t2, .ref rt])) o2 = some (.tup [.str (nmK ns many i), .ref t1, .ref t2, .ref rt]) := upd_same
          have y := (y1.trans y2).trans y3
          generalize upd (upd (upd H3 t1 (.tup [])) t2 (.tup [])) o2 (.tup [.str (nmK ns many i), .ref t1, .ref t2, .ref rt]) = H4 at y h1 h2 h3 ⊢
          have hdl4 := y.lst hdl3
          refine ⟨dl, dvs, _, rfl, rfl, hdl4, by rw [sizeLine_eq]; omega, ?_⟩
          have x5 : Ex [dl] H4 (upd H4 dl (.lst (dvs ++ [.ref o2]))) := .put hdl4 nt_lst (by simp)
          have x05 : Ex [fl, dl] H (upd H4 dl (.lst (dvs ++ [.ref o2]))) := ((((xp.trans xo).mono (by simp)).trans (x3.mono (by simp))).trans (y.mono (by simp))).trans (x5.mono (by simp))
          have x35 : Ex [dl] H3 (upd H4 dl (.lst (dvs ++ [.ref o2]))) := (y.mono (by simp)).trans x5
          refine q _ _ (.ref o) (.ref o2) x05 (x35.lst hfl3 (by simpa using fd1)) ⟨o, bl, wd, .ref rt, rfl, .of (x35.tup (x3.tup ho)), x05.lst hbl (by simp [b1, b2]), hwd.ex x05 (by simp [w1, w2]), trt.ex x05, by simp [b1, b2, b3], by simp [w1, w2, w3]⟩ upd_same ?_
          exact .tup (.of (x5.tup h3)) (.cons (.str _) (.cons (.tup (.of (x5.tup h1)) .nil) (.cons (.tup (.of (x5.tup h2)) .nil) (.cons (trt.ex x05) .nil)))))))))))
      (pss_by (t' := tB K) (pss_cons (ps_set (i := 12) sc_law.nd rfl (.inl rfl) (pe_tup (pa_cons (pe_callTy call_tuple_of (by rfl) m_tuple (by decide +kernel) (pa_cons (pe_slice sl_list (pv 5) po_none (po_some (pv 3))) pa_nil)) (pa_cons (pe_ix ix_tup (pe_ix ix_list (pv 5) (pv 3) (fun _ _ => rfl)) pe_int (fun _ _ => rfl)) pa_nil))))
      (pss_cons (ps_set (i := 13) sc_law.nd rfl (.inl rfl) (pe_callB (cr_sum rfl) (by rfl) m_sum (by decide +kernel) (pa_cons (pe_lc (own := [("_law_frame", 22)]) (g := gName 22) (tt := tYes) rfl sc_law.nd (pi_list (pv 6)) (blkOk_by (N := n_law) (sc := defScope s_law) (by decide +kernel)) (fun _ _ _ _ _ => pg_name (i := 22) sc_law.nd rfl (Or.inl rfl)) (fun _ _ _ _ _ => pts_nil) (fun _ _ _ _ _ => (pe_callB (call_lenK (K := K) rfl) (by rfl) m_len PySem.boot_len (pa_cons (pe_ix (ix_tupK (K := K) rfl) (pv 22) pe_int (fun _ _ => rfl)) pa_nil)))) pa_nil)))
      (pss_cons (ps_set (i := 14) sc_law.nd rfl (.inl rfl) (pe_op op_catA (pe_op (op_repTK (K := K) rfl) (pe_tup (pa_cons (pe_call C__law_draw.g hr (by rfl) C__law_draw.m C__law_draw.k C__law_draw.b .nil pass0 (pa_cons (pv 1) (pa_cons pe_int pa_nil))) pa_nil)) (pv 13)) (pe_op (op_rep01 (K := K) rfl) (pe_tup (pa_cons pe_int pa_nil)) (pe_callTy call_int1 (by rfl) m_int (by decide +kernel) (pa_cons (pe_cmpR op_eq (pv 4) pe_int (nomark _)) pa_nil)))))
      (pss_by (t' := tG K) (pss_cons (ps_set (i := 15) sc_law.nd rfl (.inl rfl) (pe_lst pa_nil))
      (pss_cons (ps_for PassesOwn.never rfl (pi_enum (by rfl) m_enumerate (pa_cons (pv 6) pa_nil)) (pg_tup rfl (pgs_cons (pg_name (i := 7) sc_law.nd rfl (.inl rfl)) (pgs_cons (pg_tup rfl (pgs_cons (pg_name (i := 11) sc_law.nd rfl (.inl rfl)) (pgs_cons (pg_name (i := 8) sc_law.nd rfl (.inl rfl)) (pgs_cons (pg_name (i := 9) sc_law.nd rfl (.inr rfl)) (pgs_cons (pg_name (i := 16) sc_law.nd rfl (.inl rfl)) (pgs_cons (pg_name (i := 10) sc_law.nd rfl (.inl rfl)) pgs_nil)))))) pgs_nil))) (pss_cons (ps_set (i := 17) sc_law.nd rfl (.inr rfl) (pe_lst pa_nil))
      (pss_cons (ps_if (PW.pt (pw_and (pt_cmpR op_eq (pv 7) pe_int (nomark _)) (pw_and1 (pt_cmpR op_eq (pv 4) pe_int (nomark _))))) (pss_cons (ps_set (i := 17) sc_law.nd rfl (.inr rfl) (pe_callTy call_list_of (by rfl) m_list (by decide +kernel) (pa_cons (pe_ix ix_tup (pe_ix ix_tup (pv 10) (pe_un un_neg pe_int) (fun _ _ => rfl)) pe_int (fun _ _ => rfl)) pa_nil)))
      (pss_one (ps_expr (pe_bm PySem.F.plainAttrs_list PySem.F.slot_list_extend PySem.F.type_list_extend mt_extend (pv 15) (pa_cons (pe_call C__law_entries.g hr (by rfl) C__law_entries.m C__law_entries.k C__law_entries.b .nil pass0 (pa_cons (pe_tup (pa_cons (pv 11) (pa_cons (pv 16) pa_nil))) (pa_cons (pv 17) (pa_cons (pv 9) pa_nil)))) pa_nil))))) pss_nil)
      (pss_by (t' := tE K) (pss_cons (ps_set (i := 18) sc_law.nd rfl (.inl rfl) (pe_tup (pa_cons (pv 11) (pa_cons (pv 16) pa_nil))))
      (pss_cons (ps_if (PW.pt (pw_or (PW.pt (pw_and (pt_cmpR op_eq (pv 7) pe_int (nomark _)) (pw_and1 (pt_cmpR op_gt (pv 4) pe_int (nomark _))))) (pw_or1 (PW.pt (pw_and (pt_cmpR op_gt (pv 7) pe_int (nomark _)) (pw_and1 (pt_cmpR op_gt (pv 4) pe_int (nomark _)))))))) (pss_one (ps_set (i := 18) sc_law.nd rfl (.inl rfl) (pe_tup (pa_cons (pv 11) (pa_cons (pe_callB call_len_seq (by rfl) m_len PySem.boot_len (pa_cons (pv 10) pa_nil)) pa_nil))))) pss_nil)
      (pss_by (t' := tF K) (pss_one (ps_expr (pe_bm PySem.F.plainAttrs_list PySem.F.slot_list_extend PySem.F.type_list_extend mt_extend (pv 15) (pa_cons (pe_call C__law_entries.g hr (by rfl) C__law_entries.m C__law_entries.k C__law_entries.b .nil pass0 (pa_cons (pv 18) (pa_cons (pe_lc (own := [("_law_box", 21)]) (g := gName 21) rfl sc_law.nd (pi_list (pv 8)) (blkOk_by (N := n_law) (sc := defScope s_law) (by decide +kernel)) (fun _ _ _ _ _ => pg_name (i := 21) sc_law.nd rfl (Or.inl rfl)) (fun _ _ _ _ _ => pts_one (pt_cmpR (op_notInB (K := K) rfl) (pv 21) (pv 17) rfl)) (fun _ _ _ _ _ => (pv 21))) (pa_cons (pv 9) pa_nil)))) pa_nil)))) (by
          rintro D σ H ⟨v0, v1, v2, v3, v4, v5, v6, v7, v10, v11, y12, y13, y14, v16, du, bl, wd, gn, tp, n, g, gs, xs, ds0, rfl, hbl, hwd, htp, hgn, hdu, txs, lds, lb, bd, wdd, gd, q⟩
          refine ⟨.ref du, rfl, .inl ⟨rfl, _, .of hdu⟩, .ref tp, rfl, .ref bl, rfl, bl, rfl, ⟨_, .of hbl⟩, fun C nC => ?_⟩
          have blC : bl ≠ C := ne_of_none hbl nC
          have gnC : gn ≠ C := ne_of_none hgn nC
          have duC : du ≠ C := ne_of_none hdu nC
          refine lc_list (a := bl) (xs := g.bs.map V.str) (fun j H4 => H4 C = some (.lst (((g.bs.take j).filter fun q => decide (¬ q ∈ gs)).map V.str)) ∧ Ex [C] H H4) ?_ ?_ ?_ ?_
          · exact ⟨upd_same, .new nC⟩
          · rintro j H4 _ ⟨_, x4⟩
            exact .of (x4.lst hbl (by simpa using blC))
          · rintro j x H4 hx ⟨hC4, x4⟩
            rw [List.getElem?_map] at hx
            cases hbi : g.bs[j]? with
            | none => rw [hbi] at hx; cases hx
            | some bq =>
            rw [hbi] at hx
            cases hx
            have hj : j < g.bs.length := (List.getElem?_eq_some_iff.mp hbi).1
            refine ⟨rfl, .str bq, rfl, .ref gn, rfl, gn, _, rfl, .inl (.of (x4.lst hgn (by simpa using gnC))), rfl, strs_flat _, _, rfl, ?_⟩
            show if (!inV (V.str bq) (gs.map V.str)) = true then _ else _
            rw [inV_strs]
            by_cases mq : bq ∈ gs
            · rw [decide_eq_true mq, if_neg (by decide)]
              refine ⟨?_, x4⟩
              rw [List.take_add_one, hbi]
              show H4 C = some (HO.lst (((g.bs.take j ++ [bq]).filter fun q => decide (¬ q ∈ gs)).map V.str))
              rw [List.filter_append, List.filter_cons_of_neg (by simp [mq]), List.filter_nil, List.append_nil]; exact hC4
            · rw [decide_eq_false mq, if_pos (by decide)]
              have lf : ((g.bs.take j).filter fun q => decide (¬ q ∈ gs)).length ≤ j := Nat.le_trans (List.length_filter_le _ _) (by rw [List.length_take]; exact Nat.min_le_left _ _)
              refine ⟨.str bq, rfl, _, hC4, ?_, ?_, ?_⟩
              · rw [List.length_map, sizeLine_eq]; omega
              · rw [upd_same, List.take_add_one, hbi]
                show some (HO.lst (((g.bs.take j).filter fun q => decide (¬ q ∈ gs)).map V.str ++ [.str bq])) = some (.lst (((g.bs.take j ++ [bq]).filter fun q => decide (¬ q ∈ gs)).map V.str))
                rw [List.filter_append, List.filter_cons_of_pos (by simp [mq]), List.filter_nil, List.map_append]; rfl
              · exact x4.trans (.put hC4 nt_lst (by simp))
          · rintro H4 ⟨hC4, x4⟩
            rw [List.length_map, List.take_length] at hC4
            have x04 : Ex [] H H4 := Ex.own nC .refl (x4.mono (by simp))
            have lfil : (g.bs.filter fun q => decide (¬ q ∈ gs)).length ≤ g.bs.length := List.length_filter_le _ _
            have sub : WdH H4 wd g.wf (g.bs.filter fun q => decide (¬ q ∈ gs)) := by
              obtain ⟨kvs, w1, w2⟩ := hwd.ex x04 (by simp)
              exact ⟨kvs, w1, fun b mb => w2 b (List.mem_filter.mp mb).1⟩
            refine ⟨.ref wd, rfl, .ref tp, C, wd, plcD g.nm n, _, g.wf, rfl, .tup (.of (x04.tup htp)) (.cons (.str _) (.cons (.int _) .nil)), .of hC4, by omega, sub, fun H5 p ys np x5 hp tys => ?_⟩
            have x05 := x04.trans x5
            have hdu5 := x05.lst hdu
            have lys := tys.len
            have lxs := txs.len
            have ls := (srtS_ok (g.bs.filter fun q => decide (¬ q ∈ gs))).1.length_eq
            rw [List.length_map] at lys
            refine ⟨du, p, xs, ys, rfl, rfl, hdu5, hp, by rw [sizeLine_eq]; omega, ?_⟩
            have x6 : Ex [du] H5 (upd H5 du (.lst (xs ++ ys))) := .put hdu5 nt_lst (by simp)
            refine q _ (xs ++ ys) ((x05.mono (by simp)).trans x6) upd_same ((txs.ex x05).app tys |>.ex x6))))) (by
          rintro D σ H ⟨v0, v1, v2, v3, v5, v6, y12, y13, y14, y18, du, bl, wd, gn, rv, way, i, g, r, gs, xs, ds0, rfl, hbl, hwd, trv, hgn, hdu, txs, lds, lb, bd, wdd, gd, q⟩
          refine ⟨.str g.nm, rfl, .int (g.bs.length : Nat), rfl, l2, fun t1 n1 => ?_⟩
          have x1 : Ex [] H (upd H t1 (.tup [.str g.nm, .int (g.bs.length : Nat)])) := .new n1
          have ht1 : (upd H t1 (.tup [.str g.nm, .int (g.bs.length : Nat)])) t1 = some (.tup [.str g.nm, .int (g.bs.length : Nat)]) := upd_same
          generalize upd H t1 (.tup [.str g.nm, .int (g.bs.length : Nat)]) = H1 at x1 ht1 ⊢
          obtain ⟨ra, rxs, rfl, hrs, hra⟩ := row_in trv
          have lr := hra.len
          rw [List.length_map] at lr
          have fin : ∀ (H2 : Hp) (tp : Addr) (n : Nat), Ex [] H H2 → H2 tp = some (.tup [.str g.nm, .int (n : Nat)]) → n = (if (i = 0 ∧ way > 2) ∨ (i > 0 ∧ way > 1) then r.length else g.bs.length) →
              tF K D [v0, v1, v2, v3, some (.int way), v5, v6, some (.int (i : Nat)), some (.ref bl), some (.ref wd), some (.ref ra), some (.str g.nm), y12, y13, y14, some (.ref du), some (.int (g.bs.length : Nat)), some (.ref gn), some (.ref tp), none, none, none, none] H2 := by
            intro H2 tp n x2 htp en
            refine ⟨_, _, _, _, _, _, _, _, _, _, _, _, _, _, du, bl, wd, gn, tp, n, g, gs, xs, ds0, rfl, x2.lst hbl, hwd.ex x2 (by simp), htp, x2.lst hgn, x2.lst hdu, txs.ex x2, lds, lb, bd, wdd, gd, fun H' xs' x' hd' tx' => ?_⟩
            refine q H' _ xs' ((x2.mono (by simp)).trans x') hd' ?_
            rw [← en]; exact tx'
          refine ⟨.int (i : Nat), rfl, rfl, _, rfl, ?_⟩
          by_cases e0 : i = 0
          · refine itD (show V.int (i : Nat) = V.int 0 by rw [e0]; rfl) ⟨.int way, rfl, way, 2, rfl, rfl, _, rfl, ?_⟩
            by_cases e2 : way > 2
            · refine itD e2 (iteT ?_)
              refine ⟨.str g.nm, rfl, .ref ra, rfl, ra, _, rfl, .inr (x1.seqT hrs), l2, fun t2 n2 => ?_⟩
              refine fin _ t2 rxs.length (x1.trans (.new n2)) upd_same ?_
              rw [if_pos (.inl ⟨e0, e2⟩), lr]
            · refine itN e2 ?_
              refine ⟨.int (i : Nat), rfl, i, 0, rfl, rfl, _, rfl, itN (by omega) ?_⟩
              refine fin _ t1 g.bs.length x1 ht1 ?_
              rw [if_neg]
              intro z
              rcases z with z | z
              · exact e2 z.2
              · omega
          · refine itN (fun z => e0 (by have := V.int.inj z; omega)) (iteF ?_)
            refine ⟨.int (i : Nat), rfl, i, 0, rfl, rfl, _, rfl, itD (by omega) ⟨.int way, rfl, way, 1, rfl, rfl, _, rfl, ?_⟩⟩
            by_cases e2 : way > 1
            · refine itD e2 ?_
              refine ⟨.str g.nm, rfl, .ref ra, rfl, ra, _, rfl, .inr (x1.seqT hrs), l2, fun t2 n2 => ?_⟩
              refine fin _ t2 rxs.length (x1.trans (.new n2)) upd_same ?_
              rw [if_pos (.inr ⟨by omega, e2⟩), lr]
            · refine itN e2 ?_
              refine fin _ t1 g.bs.length x1 ht1 ?_
              rw [if_neg]
              intro z
              rcases z with z | z
              · exact e0 z.1
              · exact e2 z.2)))))
      (pss_cons (ps_set (i := 19) sc_law.nd rfl (.inl rfl) (pe_callB (cr_sum rfl) (by rfl) m_sum (by decide +kernel) (pa_cons (pe_lc (own := [("_law_frame", 22)]) (g := gName 22) (tt := tYes) rfl sc_law.nd (pi_list (pv 6)) (blkOk_by (N := n_law) (sc := defScope s_law) (by decide +kernel)) (fun _ _ _ _ _ => pg_name (i := 22) sc_law.nd rfl (Or.inl rfl)) (fun _ _ _ _ _ => pts_nil) (fun _ _ _ _ _ => (pe_callB (call_lenK (K := K) rfl) (by rfl) m_len PySem.boot_len (pa_cons (pe_ix (ix_tupK (K := K) rfl) (pv 22) pe_int (fun _ _ => rfl)) pa_nil)))) pa_nil)))
      (pss_cons (ps_set (i := 20) sc_law.nd rfl (.inl rfl) (pe_ix ix_list (pe_lst (pa_cons (pe_tup (pa_cons pe_str pa_nil)) (pa_cons (pe_tup (pa_cons pe_str (pa_cons (pe_ix ix_list (pv 2) pe_int (fun _ _ => rfl)) pa_nil))) pa_nil))) (pe_callTy call_int1 (by rfl) m_int (by decide +kernel) (pa_cons (pe_cmpR op_lt (pv 4) pe_int (nomark _)) pa_nil)) (fun _ _ => rfl)))
      (pss_one (ps_ret (pe_cmpR (op_eqSame (K := K) rfl hr.units) (pe_call C_run.g hr (by rfl) C_run.m C_run.k C_run.b .nil pass0 (pa_cons (pv 12) (pa_cons (pv 14) (pa_cons pe_int pa_nil)))) (pe_op op_catA (pv 20) (pe_tup (pa_cons (pv 19) (pa_cons (pe_tup pa_nil) (pa_cons (pe_callTy call_tuple_of (by rfl) m_tuple (by decide +kernel) (pa_cons (pv 15) pa_nil)) pa_nil))))) (nomark _)))))))) (by
          rintro D σ H ⟨v0, v1, v3, v5, y7, y8, y9, y10, y11, y13, nl, fl, pg, an, ns, many, way, E, Bs, fvs, a, rfl, hnl, N, w0, w1, lB, BO, hfl, pf, tpg, han, a0, a1, q⟩
          obtain ⟨gs, gN, gD, h13⟩ := h13B N BO lB a0 a1
          obtain ⟨us, g0, eL, eR⟩ := res13 h13
          have lfv := pf.len
          refine ⟨Nat.zero_le _, fun du ndu => ?_⟩
          have xdu : Ex [] H (upd H du (.lst [])) := .new ndu
          have hdu : (upd H du (.lst [])) du = some (.lst []) := upd_same
          have fldu : fl ≠ du := ne_of_none hfl ndu
          have nldu : nl ≠ du := ne_of_none hnl ndu
          have pf1 : P2 (FvH K [du] (upd H du (.lst []))) fvs Bs := pf.imp fun v b h => (h.more ndu).ex xdu (by simp)
          have hfl1 := xdu.lst hfl
          generalize upd H du (.lst []) = H1 at xdu hdu pf1 hfl1 ⊢
          refine ⟨.ref fl, rfl, fl, _, rfl, .of hfl1, for_it (walk_enum (K := K) (a := fl) (xs := fvs)) (fun i σ H2 => ∃ (y7 y8 y9 y10 y11 y16 y17 y18 : Option V) (xs : List V), σ = [v0, v1, some (.ref nl), v3, some (.int way), v5, some (.ref fl), y7, y8, y9, y10, y11, some (.ref pg), y13, some (.ref an), some (.ref du), y16, y17, y18, none, none, none, none] ∧ Ex [du] H1 H2 ∧ H2 du = some (.lst xs) ∧ TpAll K H2 xs (dueN ⟨way, (ns[9]?).getD emp, gs⟩ Bs i) ∧ xs.length ≤ 100 * i) ?_ ?_ ?_ ?_⟩
          · exact ⟨_, _, _, _, _, _, _, _, [], rfl, .refl, hdu, .nil, Nat.le_refl _⟩
          · rintro i σ H2 _ ⟨_, _, _, _, _, _, _, _, xs, _, x2, _⟩
            exact .of (x2.lst hfl1 (by simpa using fldu))
          · rintro i x σ H2 H3 hi ⟨y7, y8, y9, y10, y11, y16, y17, y18, xs, rfl, x2, hdu2, txs, lxs⟩ ⟨T9, u1, u2, rfl, n9, rfl, hu1, hu2⟩
            cases hu1
            have hu2 : fvs[i]? = some u2 := hu2
            obtain ⟨b, hb, hv⟩ := pf1.getL hu2
            have x9 : Ex [] H2 (upd H2 T9 (.tup [.int (i : Nat), u2])) := .new n9
            have x19 : Ex [du] H1 (upd H2 T9 (.tup [.int (i : Nat), u2])) := x2.trans (x9.mono (by simp))
            have hT9 : (upd H2 T9 (.tup [.int (i : Nat), u2])) T9 = some (.tup [.int (i : Nat), u2]) := upd_same
            have hdu9 := x9.lst hdu2
            have txs9 := txs.ex x9
            generalize upd H2 T9 (.tup [.int (i : Nat), u2]) = H9 at x9 x19 hT9 hdu9 txs9 ⊢
            obtain ⟨o, bl, wd, rv, rfl, ho, hbl, hwd, trv, blm, wdm⟩ := hv.ex x19 (by simp)
            refine ⟨T9, _, rfl, .of hT9, rfl, _, _, rfl, _, _, rfl, ?_⟩
            refine ⟨o, _, rfl, ho, rfl, _, _, rfl, _, _, rfl, _, _, rfl, _, _, rfl, _, _, rfl, rfl, rfl, ?_⟩
            refine ⟨Nat.zero_le _, fun gn ngn => ?_⟩
            have xgn : Ex [] H9 (upd H9 gn (.lst [])) := .new ngn
            have hgn : (upd H9 gn (.lst [])) gn = some (.lst (([] : List Str).map V.str)) := upd_same
            have dugn : du ≠ gn := ne_of_none hdu9 ngn
            generalize upd H9 gn (.lst []) = H10 at xgn hgn ⊢
            obtain ⟨lb1, lb4, ndb, _, _⟩ := BO.bs i b hb
            have hib : i < Bs.length := (List.getElem?_eq_some_iff.mp hb).1
            have m6 := N.m6
            have ltx := txs.len
            have hr := BO.r i b hb
            have lr : b.r.length = b.g.bs.length + (if i = 0 then E else [Wo.call (nmK ns many (i - 1)) [] []]).length := by
              rw [hr, List.length_append]
              unfold takesL
              rw [List.length_map]
            have fin : ∀ (H11 : Hp) (g1 : Addr) (gs' : List Str) (ys : List V) (ds0 : List PyData) (y18 : Option V), Ex [du] H9 H11 → H11 g1 = some (.lst (gs'.map V.str)) → g1 ≠ du → H11 du = some (.lst ys) → TpAll K H11 ys ds0 → ds0.length ≤ 100 * i + 10 →
                ds0 ++ entG (plcD b.g.nm (if (i = 0 ∧ way > 2) ∨ (i > 0 ∧ way > 1) then b.r.length else b.g.bs.length)) b.g (b.g.bs.filter fun q => decide (¬ q ∈ gs')) = dueN ⟨way, (ns[9]?).getD emp, gs⟩ Bs (i + 1) →
                tE K { nx := fun σ' H' => ∃ (y7 y8 y9 y10 y11 y16 y17 y18 : Option V) (xs : List V), σ' = [v0, v1, some (.ref nl), v3, some (.int way), v5, some (.ref fl), y7, y8, y9, y10, y11, some (.ref pg), y13, some (.ref an), some (.ref du), y16, y17, y18, none, none, none, none] ∧ Ex [du] H1 H' ∧ H' du = some (.lst xs) ∧ TpAll K H' xs (dueN ⟨way, (ns[9]?).getD emp, gs⟩ Bs (i + 1)) ∧ xs.length ≤ 100 * (i + 1), rt := D.rt } [v0, v1, some (.ref nl), v3, some (.int way), v5, some (.ref fl), some (.int (i : Nat)), some (.ref bl), some (.ref wd), some rv, some (.str b.g.nm), some (.ref pg), y13, some (.ref an), some (.ref du), some (.int (b.g.bs.length : Nat)), some (.ref g1), y18, none, none, none, none] H11 := by
              intro H11 g1 gs' ys ds0 y18 x11 hg1 g1du hdu11 tys lds ed
              refine ⟨_, _, _, _, _, _, _, _, _, _, du, bl, wd, g1, rv, way, i, b.g, b.r, gs', ys, ds0, rfl, x11.lst hbl (by simpa using fun e => blm (by simp [e])), hwd.ex x11 (by simpa using fun e => wdm (by simp [e])), trv.ex x11, hg1, hdu11, tys, by omega, by omega, fun e => blm (by simp [e]), fun e => wdm (by simp [e]), g1du, fun H' y18' xs' x' hd' tx' => ?_⟩
              rw [ed] at tx'
              have lt' := tx'.len
              refine ⟨_, _, _, _, _, _, _, _, xs', rfl, (x19.trans x11).trans x', hd', tx', ?_⟩
              have := congrArg List.length ed
              rw [List.length_append] at this
              have le : (entG (plcD b.g.nm (if (i = 0 ∧ way > 2) ∨ (i > 0 ∧ way > 1) then b.r.length else b.g.bs.length)) b.g (b.g.bs.filter fun q => decide (¬ q ∈ gs'))).length ≤ b.g.bs.length := by
                unfold entG
                rw [List.length_map, (srtS_ok _).1.length_eq]
                exact List.length_filter_le _ _
              omega
            refine ⟨.int (i : Nat), rfl, rfl, _, rfl, ?_⟩
            have oth : ¬ (i = 0 ∧ way = 4) → tE K { nx := fun σ' H' => ∃ (y7 y8 y9 y10 y11 y16 y17 y18 : Option V) (xs : List V), σ' = [v0, v1, some (.ref nl), v3, some (.int way), v5, some (.ref fl), y7, y8, y9, y10, y11, some (.ref pg), y13, some (.ref an), some (.ref du), y16, y17, y18, none, none, none, none] ∧ Ex [du] H1 H' ∧ H' du = some (.lst xs) ∧ TpAll K H' xs (dueN ⟨way, (ns[9]?).getD emp, gs⟩ Bs (i + 1)) ∧ xs.length ≤ 100 * (i + 1), rt := D.rt } [v0, v1, some (.ref nl), v3, some (.int way), v5, some (.ref fl), some (.int (i : Nat)), some (.ref bl), some (.ref wd), some rv, some (.str b.g.nm), some (.ref pg), y13, some (.ref an), some (.ref du), some (.int (b.g.bs.length : Nat)), some (.ref gn), y18, none, none, none, none] H10 := fun no => by
              refine fin H10 gn [] xs _ _ (xgn.mono (by simp)) hgn dugn.symm (xgn.lst hdu9) (txs9.ex xgn) (by omega) ?_
              rw [dueN_succ hb, filt_nil]
              congr 1
              unfold dueF p0 pU
              by_cases e0 : i = 0
              · have n4 : way ≠ 4 := fun e => no ⟨e0, e⟩
                have eg := gN n4
                rw [if_pos e0, eg, filt_nil]
                show _ = (if way = 4 then _ else _) ++ entG (plcD b.g.nm (if way = 4 then _ else _)) b.g b.g.bs
                rw [if_neg n4, if_neg n4, List.nil_append]
                congr 2
                rw [if_pos e0] at lr
                split
                · rename_i z
                  rcases z with z | z
                  · have w3 : way = 3 := by omega
                    have : E.length = 0 := by
                      subst e0
                      rcases BO.en b hb with ⟨e, _⟩ | ⟨e, _⟩ | ⟨e, _⟩ | ⟨_, e⟩ | ⟨e, _⟩
                      · omega
                      · omega
                      · omega
                      · rw [e]; rfl
                      · omega
                    omega
                  · omega
                · rfl
              · rw [if_neg e0]
                show _ = entG (plcD b.g.nm (if way < 2 then _ else _)) b.g b.g.bs
                congr 2
                rw [if_neg e0] at lr
                have lr : b.r.length = b.g.bs.length + 1 := lr
                split
                · rename_i z
                  rw [if_neg (by omega), lr]
                · rename_i z
                  rw [if_pos (by omega)]
            by_cases e0 : i = 0
            · refine itD (show V.int (i : Nat) = V.int 0 by rw [e0]; rfl) ⟨.int way, rfl, rfl, _, rfl, ?_⟩
              by_cases e4 : way = 4
              · refine itD (by rw [e4]) ?_
                have eE := gD e4
                obtain ⟨ra, rxs, rfl, hrs, hra⟩ := row_in (trv.ex xgn)
                have hra' := hra
                rw [hr, if_pos e0, eE, List.map_append] at hra'
                obtain ⟨rxs', lw, rfl, tlw⟩ := tp_last hra'
                obtain ⟨wa, wr, rfl, hws, hwr⟩ := word_in tlw
                cases hwr with
                | cons hg hwr2 =>
                cases hg with
                | tup hgs hga =>
                rename_i ga gxs
                obtain rfl := strs_inv hga
                refine ⟨.ref ra, rfl, 1, rfl, ra, _, -1, .ref wa, rfl, rfl, hrs, atI_last _ _, wa, _, 1, .ref ga, rfl, rfl, hws, at1, ga, _, rfl, .inr hgs, fun g1 ng1 => ?_⟩
                have x11 : Ex [] H10 (upd H10 g1 (.lst (gs.map V.str))) := .new ng1
                have hg1 : (upd H10 g1 (.lst (gs.map V.str))) g1 = some (.lst (gs.map V.str)) := upd_same
                have hdu10 := xgn.lst hdu9
                have dug1 : du ≠ g1 := ne_of_none hdu10 ng1
                generalize upd H10 g1 (.lst (gs.map V.str)) = H11 at x11 hg1 ⊢
                have x911 : Ex [] H9 H11 := xgn.trans x11
                have hdu11 := x11.lst hdu10
                obtain ⟨_, _, hgY⟩ : True ∧ True ∧ (∀ q ∈ gs, q ∈ b.g.bs) := by
                  refine ⟨trivial, trivial, ?_⟩
                  have : EndOk way ((ns[9]?).getD emp) b.g.bs E := BO.en b (by rw [← e0]; exact hb)
                  rcases this with ⟨e, _⟩ | ⟨e, _⟩ | ⟨e, _⟩ | ⟨e, _⟩ | ⟨_, gs2, rs2, e, pm⟩
                  · omega
                  · omega
                  · omega
                  · omega
                  · rw [eE] at e
                    cases e
                    exact fun q mq => pm.mem_iff.mp (List.mem_append_left _ mq)
                have lgs : gs.length ≤ 4 := by
                  have : EndOk way ((ns[9]?).getD emp) b.g.bs E := BO.en b (by rw [← e0]; exact hb)
                  rcases this with ⟨e, _⟩ | ⟨e, _⟩ | ⟨e, _⟩ | ⟨e, _⟩ | ⟨_, gs2, rs2, e, pm⟩
                  · omega
                  · omega
                  · omega
                  · omega
                  · rw [eE] at e
                    cases e
                    have := pm.length_eq
                    rw [List.length_append] at this
                    omega
                have wsub : WdH H11 wd b.g.wf gs := by
                  obtain ⟨kvs, w1', w2'⟩ := hwd.ex x911 (by simp)
                  exact ⟨kvs, w1', fun q mq => w2' q (hgY q mq)⟩
                refine ⟨.ref du, rfl, .inl ⟨rfl, _, .of hdu11⟩, .str b.g.nm, rfl, .int (b.g.bs.length : Nat), rfl, l2, fun tp ntp => ?_⟩
                have x12 : Ex [] H11 (upd H11 tp (.tup [.str b.g.nm, .int (b.g.bs.length : Nat)])) := .new ntp
                have htp : (upd H11 tp (.tup [.str b.g.nm, .int (b.g.bs.length : Nat)])) tp = some (.tup [.str b.g.nm, .int (b.g.bs.length : Nat)]) := upd_same
                generalize upd H11 tp (.tup [.str b.g.nm, .int (b.g.bs.length : Nat)]) = H12 at x12 htp ⊢
                refine ⟨.ref g1, rfl, .ref wd, rfl, .ref tp, g1, wd, plcD b.g.nm b.g.bs.length, gs, b.g.wf, rfl, .tup (.of htp) (.cons (.str _) (.cons (.int _) .nil)), .of (x12.lst hg1), by omega, wsub.ex x12 (by simp), fun H13 p ys np x13 hp tys => ?_⟩
                have x1113 := x12.trans x13
                have hdu13 := x1113.lst hdu11
                have lys := tys.len
                have ls := (srtS_ok gs).1.length_eq
                rw [List.length_map] at lys
                refine ⟨du, p, xs, ys, rfl, rfl, hdu13, hp, by rw [sizeLine_eq]; omega, ?_⟩
                have x14 : Ex [du] H13 (upd H13 du (.lst (xs ++ ys))) := .put hdu13 nt_lst (by simp)
                have x1114 : Ex [du] H11 (upd H13 du (.lst (xs ++ ys))) := (x1113.mono (by simp)).trans x14
                have x914 : Ex [du] H9 (upd H13 du (.lst (xs ++ ys))) := (x911.mono (by simp)).trans x1114
                refine fin _ g1 gs (xs ++ ys) (dueN ⟨way, (ns[9]?).getD emp, gs⟩ Bs i ++ entG (plcD b.g.nm b.g.bs.length) b.g gs) _ x914 (x1114.lst hg1 (by simpa using dug1.symm)) dug1.symm upd_same (((txs9.ex x911).ex x1113).app tys |>.ex x14) (by rw [List.length_append]; unfold entG; rw [List.length_map]; omega) ?_
                rw [dueN_succ hb]
                unfold dueF p0
                rw [if_pos e0]
                show _ = _ ++ ((if way = 4 then _ else _) ++ entG (plcD b.g.nm (if way = 4 then _ else _)) b.g _)
                rw [if_pos e4, if_pos e4, List.append_assoc, if_pos (.inl ⟨e0, by omega⟩), lr, if_pos e0, eE]
                rfl
              · refine itN (fun z => e4 (V.int.inj z)) ?_
                exact oth fun z => e4 z.2
            · refine itN (fun z => e0 (by have := V.int.inj z; omega)) ?_
              exact oth fun z => e0 z.1
          · rintro σ H2 ⟨y7, y8, y9, y10, y11, y16, y17, y18, xs, rfl, x2, hdu2, txs, lxs⟩
            rw [lfv, dueN_all eL] at txs
            have x02 : Ex [] H H2 := Ex.own ndu xdu (x2.mono (by simp))
            have hfl2 := x02.lst hfl
            have hnl2 := x02.lst hnl
            -- the steps
            refine ⟨.ref fl, rfl, fl, rfl, ⟨_, .of hfl2⟩, fun C nC => ?_⟩
            have flC : fl ≠ C := ne_of_none hfl2 nC
            have duC : du ≠ C := ne_of_none hdu2 nC
            refine lc_list (a := fl) (xs := fvs) (fun j H4 => H4 C = some (.lst (((Bs.take j).map fun b => (b.r.length : Int)).map V.int)) ∧ Ex [C] H2 H4) ?_ ?_ ?_ ?_
            · exact ⟨upd_same, .new nC⟩
            · rintro j H4 _ ⟨_, x4⟩
              exact .of (x4.lst hfl2 (by simpa using flC))
            · rintro j x H4 hx ⟨hC4, x4⟩
              obtain ⟨b, hb, hv⟩ := pf.getL hx
              have x34 : Ex [] H H4 := x02.trans (Ex.own nC .refl (x4.mono (by simp)))
              obtain ⟨o, bl, wd, rv, rfl, ho, _, _, trv, _⟩ := hv.ex x34 (by simp)
              obtain ⟨ra, rxs, rfl, hrs, hra⟩ := row_in trv
              have lra := hra.len
              rw [List.length_map] at lra
              have hj : j < Bs.length := (List.getElem?_eq_some_iff.mp hb).1
              have m6 := N.m6
              refine ⟨rfl, .ref o, rfl, o, _, 4, .ref ra, rfl, rfl, ho, atI_nat (j := 4) rfl, ra, _, rfl, .inr hrs, _, hC4, ?_, ?_, ?_⟩
              · rw [List.length_map, List.length_map, List.length_take, sizeLine_eq]; omega
              · rw [upd_same, List.take_add_one, hb, lra]
                show some (HO.lst (((Bs.take j).map fun b => (b.r.length : Int)).map V.int ++ [.int (b.r.length : Nat)])) = some (.lst (((Bs.take j ++ [b]).map fun b => (b.r.length : Int)).map V.int))
                rw [List.map_append, List.map_append]; rfl
              · exact x4.trans (.put hC4 nt_lst (by simp))
            · rintro H4 ⟨hC4, x4⟩
              rw [lfv, List.take_length] at hC4
              refine ⟨C, _, rfl, .of hC4, ?_⟩
              rw [steps_sum BO eL]
              have x24 : Ex [] H2 H4 := Ex.own nC .refl (x4.mono (by simp))
              have x04 := x02.trans x24
              have hnl4 := x24.lst hnl2
              have w9 : 9 < ns.length := by rw [N.len]; decide
              have eat : atI (ns.map V.str) 9 = some (.str ((ns[9]?).getD emp)) := by
                refine atI_nat (j := 9) ?_
                rw [List.getElem?_map, List.getElem?_eq_getElem w9]; rfl
              refine ⟨l1, fun t1 n1 => ?_⟩
              have z1 : Ex [] H4 (upd H4 t1 (.tup [.str (Str.ofString "ended")])) := .new n1
              have ht1 : (upd H4 t1 (.tup [.str (Str.ofString "ended")])) t1 = some (.tup [.str (Str.ofString "ended")]) := upd_same
              generalize upd H4 t1 (.tup [.str (Str.ofString "ended")]) = H5 at z1 ht1 ⊢
              refine ⟨.ref nl, rfl, nl, _, 9, _, rfl, rfl, .of (z1.lst hnl4), eat, l2, fun t2 n2 => ?_⟩
              have z2 : Ex [] H5 (upd H5 t2 (.tup [.str (Str.ofString "fault"), .str ((ns[9]?).getD emp)])) := .new n2
              have ht2 : (upd H5 t2 (.tup [.str (Str.ofString "fault"), .str ((ns[9]?).getD emp)])) t2 = some (.tup [.str (Str.ofString "fault"), .str ((ns[9]?).getD emp)]) := upd_same
              generalize upd H5 t2 (.tup [.str (Str.ofString "fault"), .str ((ns[9]?).getD emp)]) = H6 at z2 ht2 ⊢
              refine ⟨l2, fun p np => ?_⟩
              have z3 : Ex [] H6 (upd H6 p (.lst [.ref t1, .ref t2])) := .new np
              have hp : (upd H6 p (.lst [.ref t1, .ref t2])) p = some (.lst [.ref t1, .ref t2]) := upd_same
              generalize upd H6 p (.lst [.ref t1, .ref t2]) = H7 at z3 hp ⊢
              have x47 := (z1.trans z2).trans z3
              obtain ⟨e, exs, key, he, tE⟩ : ∃ (e : Addr) (exs : List V), atI [V.ref t1, .ref t2] (if decide (way < 2) = true then 1 else 0) = some (.ref e) ∧ SqT K H7 e exs ∧ TpAll K H7 exs (enY ⟨way, (ns[9]?).getD emp, gs⟩) := by
                unfold enY
                by_cases w2 : way < 2
                · rw [decide_eq_true w2, if_pos rfl]
                  refine ⟨t2, _, at1, .of (z3.tup ht2), ?_⟩
                  show TpAll K H7 _ (if way < 2 then _ else _)
                  rw [if_pos w2]
                  exact .cons (.str _) (.cons (.str _) .nil)
                · rw [decide_eq_false w2, if_neg (by decide)]
                  refine ⟨t1, _, at0, .of (z3.tup (z2.tup ht1)), ?_⟩
                  show TpAll K H7 _ (if way < 2 then _ else _)
                  rw [if_neg w2]
                  exact .cons (.str _) .nil
              refine ⟨.int way, rfl, way, 2, rfl, rfl, .inr ⟨_, rfl, p, _, _, _, rfl, rfl, .of hp, key, ?_⟩⟩
              have x07 := x04.trans x47
              refine ⟨.ref pg, rfl, .ref an, rfl, .ref pg, an, 400, flatPr (dsB Bs many) (wsB Bs many), _, fiveB ns, ns, rfl, tpg.ex x07, x07.seqT han, flatB BO lB, runB N BO lB (ans13 h13), fun H8 v x8 tv => ?_⟩
              rw [eR] at tv
              cases tv with
              | tup hs8 ha8 =>
              rename_i r8 xs8
              refine ⟨.ref e, rfl, .int ((nS us + g0.bs.length + E.length : Nat) : Int), rfl, l0, fun t3 n3 => ?_⟩
              have z4 : Ex [] H8 (upd H8 t3 (.tup [])) := .new n3
              have ht3 : (upd H8 t3 (.tup [])) t3 = some (.tup []) := upd_same
              generalize upd H8 t3 (.tup []) = H9 at z4 ht3 ⊢
              have x29 : Ex [] H2 H9 := ((x24.trans x47).trans x8).trans z4
              refine ⟨.ref du, rfl, du, _, rfl, .inl ⟨.of (x29.lst hdu2), fun t4 n4 => ?_⟩⟩
              have z5 : Ex [] H9 (upd H9 t4 (.tup xs)) := .new n4
              have ht4 : (upd H9 t4 (.tup xs)) t4 = some (.tup xs) := upd_same
              generalize upd H9 t4 (.tup xs) = H10 at z5 ht4 ⊢
              refine ⟨l3, fun t5 n5 => ?_⟩
              have z6 : Ex [] H10 (upd H10 t5 (.tup [.int ((nS us + g0.bs.length + E.length : Nat) : Int), .ref t3, .ref t4])) := .new n5
              have ht5 : (upd H10 t5 (.tup [.int ((nS us + g0.bs.length + E.length : Nat) : Int), .ref t3, .ref t4])) t5 = some (.tup [.int ((nS us + g0.bs.length + E.length : Nat) : Int), .ref t3, .ref t4]) := upd_same
              generalize upd H10 t5 (.tup [.int ((nS us + g0.bs.length + E.length : Nat) : Int), .ref t3, .ref t4]) = H11 at z6 ht5 ⊢
              have x811 : Ex [] H8 H11 := (z4.trans z5).trans z6
              have x211 : Ex [] H2 H11 := (x29.trans z5).trans z6
              refine tp_cat (K := K) (es := [.int ((nS us + g0.bs.length + E.length : Nat) : Int), .tuple [], .tuple (finL ⟨way, (ns[9]?).getD emp, gs⟩ g0 us)]) (x811.seqT (x8.seqT he)) (.of ht5) ((tE.ex x8).ex x811)
                (.cons (.int _) (.cons (.tup (.of (z6.tup (z5.tup ht3))) .nil) (.cons (.tup (.of (z6.tup ht4)) (txs.ex x211)) .nil))) (by unfold enY; split <;> simp) fun p9 H12 zs x12 hs12 ht12 => ?_
              exact ⟨r8, p9, _, _, zs, rfl, rfl, x12.seqT (x811.seqT hs8), hs12, (ha8.ex x811).ex x12, ht12, depth_res, q _⟩))))) (by
          rintro D σ H ⟨v0, y7, y8, y9, y10, y11, d, nl, dl, fl, ns, many, way, E, Bs, fvs, dvs, rfl, hD, hnl, nld, lns, hN, ndN, m1, m6, w0, w1, lB, BO, hfl, pf, hdl, pd, fld, dld, fldl, nlfl, nldl, q⟩
          have N : BokN ns many := ⟨lns, hN, ndN, m1, m6⟩
          have hm : many < Bs.length := by omega
          have hbm : Bs[many]? = some Bs[many] := List.getElem?_eq_getElem hm
          have ldv := pd.len
          rw [List.length_map] at ldv
          -- the program
          refine ⟨.ref dl, rfl, .int many, rfl, many, rfl, dl, _, rfl, .of hdl, fun p1 n1 => ?_⟩
          rw [cut_to]
          have x1 : Ex [] H (upd H p1 (.lst (dvs.take many))) := .new n1
          have hp1 : (upd H p1 (.lst (dvs.take many))) p1 = some (.lst (dvs.take many)) := upd_same
          generalize upd H p1 (.lst (dvs.take many)) = H1 at x1 hp1 ⊢
          refine ⟨p1, _, rfl, .inl ⟨.of hp1, fun t1 nt1 => ?_⟩⟩
          have x2 : Ex [] H1 (upd H1 t1 (.tup (dvs.take many))) := .new nt1
          have ht1 : (upd H1 t1 (.tup (dvs.take many))) t1 = some (.tup (dvs.take many)) := upd_same
          generalize upd H1 t1 (.tup (dvs.take many)) = H2 at x2 ht1 ⊢
          have x02 := x1.trans x2
          have hdl2 := x02.lst hdl
          have hmd : many < dvs.length := by omega
          obtain ⟨dm, hdm, tdm⟩ := pd.get (List.getElem?_eq_getElem hmd)
          rw [List.getElem?_map, hbm] at hdm
          cases hdm
          obtain ⟨o, o1, o2, ow, eo, ho, _, _, tw⟩ := df_in (tdm.ex x02)
          have eo' : dvs[many]? = some (.ref o) := by rw [List.getElem?_eq_getElem hmd, eo]
          refine ⟨.ref dl, rfl, .int many, rfl, dl, _, many, .ref o, rfl, rfl, .of hdl2, atN eo', o, _, 3, ow, rfl, rfl, ho, at3, l2, fun pg npg => ?_⟩
          have x3 : Ex [] H2 (upd H2 pg (.tup [.ref t1, ow])) := .new npg
          have tpg : Tp K (upd H2 pg (.tup [.ref t1, ow])) (.ref pg) (pgD (dsB Bs many) (wsB Bs many)) := by
            unfold pgD
            refine .tup (.of upd_same) (.cons (.tup (.of (x3.tup ht1)) ?_) (.cons ?_ .nil))
            · have : (dsB Bs many).map defD = (Bs.map fun b => defD (dfB b)).take many := by
                unfold dsB
                rw [List.map_map, ← List.map_take]; rfl
              rw [this]
              exact ((tp_take pd many).ex x02).ex x3
            · have : wsB Bs many = Bs[many].r := by unfold wsB; rw [hbm]
              rw [this]
              exact tw.ex x3
          generalize upd H2 pg (.tup [.ref t1, ow]) = H3 at x3 tpg ⊢
          have x03 := x02.trans x3
          have hfl3 := x03.lst hfl
          have hD3 := hD.ex x03 (by simp)
          have dne : ∀ {H9 : Hp} {B : Addr}, Deck H9 d → H9 B = none → d ≠ B := fun ⟨c, s, zs, h, _⟩ n z => by rw [z, n] at h; cases h
          have lfv := pf.len
          -- how many takes
          refine ⟨.ref fl, rfl, fl, rfl, ⟨_, .of hfl3⟩, fun C nC => ?_⟩
          have flC : fl ≠ C := ne_of_none hfl3 nC
          refine lc_list (a := fl) (xs := fvs) (fun j H4 => H4 C = some (.lst (((Bs.take j).map fun b => (b.g.bs.length : Int)).map V.int)) ∧ Ex [C] H3 H4) ?_ ?_ ?_ ?_
          · exact ⟨upd_same, .new nC⟩
          · rintro j H4 _ ⟨_, x4⟩
            exact .of (x4.lst hfl3 (by simpa using flC))
          · rintro j x H4 hx ⟨hC4, x4⟩
            obtain ⟨b, hb, hv⟩ := pf.getL hx
            have x34 : Ex [] H H4 := x03.trans (Ex.own nC .refl (x4.mono (by simp)))
            obtain ⟨o, bl, wd, rv, rfl, ho, hbl, _⟩ := hv.ex x34 (by simp)
            have hj : j < Bs.length := (List.getElem?_eq_some_iff.mp hb).1
            refine ⟨rfl, .ref o, rfl, o, _, 1, .ref bl, rfl, rfl, ho, at1, bl, _, rfl, .inl (.of hbl), _, hC4, ?_, ?_, ?_⟩
            · rw [List.length_map, List.length_map, List.length_take, sizeLine_eq]; omega
            · rw [upd_same, List.take_add_one, hb, List.length_map]
              show some (HO.lst (((Bs.take j).map fun b => (b.g.bs.length : Int)).map V.int ++ [.int (b.g.bs.length : Nat)])) = some (.lst (((Bs.take j ++ [b]).map fun b => (b.g.bs.length : Int)).map V.int))
              rw [List.map_append, List.map_append]; rfl
            · exact x4.trans (.put hC4 nt_lst (by simp))
          · rintro H4 ⟨hC4, x4⟩
            rw [lfv, List.take_length] at hC4
            refine ⟨C, _, rfl, .of hC4, ?_⟩
            rw [takes_sum]
            have x04 : Ex [] H H4 := x03.trans (Ex.own nC .refl (x4.mono (by simp)))
            have tpg4 := tpg.ex x4
            have hD4 := hD.ex x04 (by simp)
            have lL := lf_len lB
            have nTb : 2 ≤ nT (lfB Bs) ∧ nT (lfB Bs) ≤ 28 := by
              have key : ∀ L : List Lf, (∀ g ∈ L, 1 ≤ g.bs.length ∧ g.bs.length ≤ 4) → L.length ≤ nT L ∧ nT L ≤ 4 * L.length := by
                intro L
                induction L with
                | nil => intro _; exact ⟨Nat.le_refl _, Nat.le_refl _⟩
                | cons g L ih =>
                  intro h
                  have h1 := ih fun x m => h x (List.mem_cons_of_mem _ m)
                  have h2 := h g List.mem_cons_self
                  rw [nT_cons, List.length_cons]; omega
              have := key (lfB Bs) fun g m => lf_mem BO m
              omega
            generalize hnT : nT (lfB Bs) = nt at nTb
            -- the answers
            refine ⟨.ref d, rfl, d, 10000, rfl, hD4, by decide, by decide, fun H5 a a0 a1 x5 D5 => ⟨l1, fun t2 n2 => ?_⟩⟩
            have y2 : Ex [] H5 (upd H5 t2 (.tup [.int a])) := .new n2
            have ht2 : (upd H5 t2 (.tup [.int a])) t2 = some (.tup [.int a]) := upd_same
            generalize upd H5 t2 (.tup [.int a]) = H6 at y2 ht2 ⊢
            refine ⟨.int (nt : Nat), rfl, t2, nt, [.int a], rfl, rfl, .of ht2, (by simp), by omega, by omega, (by show 1 ≤ 1000; decide), fun t3 n3 => ?_⟩
            have er : (List.replicate ((nt : Nat) : Int).toNat [V.int a]).flatten = (List.replicate nt a).map V.int := by
              show (List.replicate nt [V.int a]).flatten = _
              rw [List.map_replicate]
              induction nt with
              | zero => rfl
              | succ n ih => rw [List.replicate_succ, List.flatten_cons, List.replicate_succ]; simp
            rw [er]
            have y3 : Ex [] H6 (upd H6 t3 (.tup ((List.replicate nt a).map V.int))) := .new n3
            have ht3 : (upd H6 t3 (.tup ((List.replicate nt a).map V.int))) t3 = some (.tup ((List.replicate nt a).map V.int)) := upd_same
            generalize upd H6 t3 (.tup ((List.replicate nt a).map V.int)) = H7 at y3 ht3 ⊢
            refine ⟨l1, fun t4 n4 => ?_⟩
            have y4 : Ex [] H7 (upd H7 t4 (.tup [.int 1])) := .new n4
            have ht4 : (upd H7 t4 (.tup [.int 1])) t4 = some (.tup [.int 1]) := upd_same
            generalize upd H7 t4 (.tup [.int 1]) = H8 at y4 ht4 ⊢
            have x48 : Ex [d] H4 H8 := x5.trans (((y2.trans y3).trans y4).mono (by simp))
            have x08 : Ex [d] H H8 := (x04.mono (by simp)).trans x48
            have D8 := ((D5.ex y2 (by simp)).ex y3 (by simp)).ex y4 (by simp)
            have two : ∀ (tb : Addr) (es : List Int) (H9 : Hp), Ex [] H8 H9 → H9 tb = some (.tup (es.map V.int)) → es.length ≤ 1 → es = (if way = 1 then [1] else []) → ∀ kk : VK, (∀ p H10, Ex [] H8 H10 → SqT K H10 p (xsB a nt way) → kk (.ref p) H10) → rCatA K (.ref t3) (.ref tb) H9 kk := fun tb es H9 x9 htb le ee kk hkk => by
              refine tp_cat (K := K) (ds := (List.replicate nt a).map PyData.int) (es := es.map PyData.int) (.of (x9.tup (y4.tup ht3))) (.of htb) (ints_all _) (ints_all _) (by rw [List.length_map, List.length_map, List.length_replicate]; omega) fun p H10 zs x10 hs ht => ?_
              rw [← List.map_append] at ht
              have ez := ints_inv ht
              refine hkk p H10 (x9.trans x10) ?_
              have : xsB a nt way = zs := by
                rw [ez, ee]
                unfold xsB
                rw [List.map_append, List.map_replicate]
                congr 1
                split <;> rfl
              rw [this]; exact hs
            have fin : ∀ (p : Addr) (H10 : Hp) (y13 : Option V), Ex [] H8 H10 → SqT K H10 p (xsB a nt way) → tG K D [v0, some (.ref d), some (.ref nl), some (.int many), some (.int way), some (.ref dl), some (.ref fl), y7, y8, y9, y10, y11, some (.ref pg), y13, some (.ref p), none, none, none, none, none, none, none, none] H10 := fun p H10 y13 x10 hs => by
              have x010 : Ex [d] H H10 := x08.trans (x10.mono (by simp))
              rw [← hnT] at hs
              exact ⟨_, _, _, _, _, _, _, _, _, _, nl, fl, pg, p, ns, many, way, E, Bs, fvs, a, rfl, x010.lst hnl (by simpa using nld), N, w0, w1, lB, BO, x010.lst hfl (by simpa using fld), pf.imp (fun v b h => (h.ex x010 (by simp)).less), (tpg4.ex x48).ex x10, hs, a0, a1, q⟩
            refine ⟨.int way, rfl, rfl, .inr ⟨_, rfl, t4, _, [.int 1], rfl, rfl, .of ht4, (by simp), ?_⟩⟩
            by_cases ew : way = 1
            · refine .inr ⟨by rw [decide_eq_true (by rw [ew]), if_pos rfl], ?_⟩
              exact two t4 [1] H8 .refl ht4 (Nat.le_refl _) (by rw [if_pos ew]) _ fun p H10 x10 hs => fin p H10 _ x10 hs
            · refine .inl ⟨by rw [decide_eq_false (fun z => ew (V.int.inj z)), if_neg (by decide)], fun t5 n5 => ?_⟩
              exact two t5 [] _ (.new n5) upd_same (Nat.zero_le _) (by rw [if_neg ew]) _ fun p H10 x10 hs => fin p H10 _ x10 hs))))))))) , ?_⟩
    have dne : ∀ {d : Addr} {H9 : Hp} {B : Addr}, Deck H9 d → H9 B = none → d ≠ B := fun ⟨c, s, zs, h, _⟩ n z => by rw [z, n] at h; cases h
    refine ⟨.ref sc, rfl, sc, ns0, rfl, hS, fun H1 d ndk x1 D1 => ?_⟩
    refine ⟨.ref d, rfl, d, 17, rfl, D1, by decide, by decide, fun H2 nl ns nnl x2 D2 hnl lns hN ndN => ?_⟩
    have dnl : d ≠ nl := dne D1 nnl
    refine ⟨.ref d, rfl, d, 2, 5, rfl, D2, by decide, fun H3 v hv x3 D3 => ?_⟩
    refine ⟨1, v, rfl, rfl, ?_⟩
    obtain ⟨many, em⟩ : ∃ many : Nat, many = 1 + v := ⟨_, rfl⟩
    have eN : (1 : Int) + (v : Int) = ((many : Nat) : Int) := by omega
    have eN' : (fun i j : Int => V.int (i + j)) 1 (v : Int) = V.int ((many : Nat) : Int) := by show V.int (1 + (v : Int)) = _; rw [eN]
    rw [eN']
    have mb : 1 ≤ many ∧ many ≤ 6 := by omega
    refine ⟨.ref d, rfl, d, 5, rfl, D3, by decide, by decide, fun H4 way w0 w1 x4 D4 => ?_⟩
    have hnl4 : H4 nl = some (.lst (ns.map V.str)) := x4.lst (x3.lst hnl (by simpa using dnl.symm)) (by simpa using dnl.symm)
    refine ⟨Nat.zero_le _, fun dl ndl => ?_⟩
    have xdl : Ex [] H4 (upd H4 dl (.lst [])) := .new ndl
    have ddl : d ≠ dl := dne D4 ndl
    have nldl : nl ≠ dl := ne_of_none hnl4 ndl
    have hdl : (upd H4 dl (.lst [])) dl = some (.lst []) := upd_same
    generalize upd H4 dl (.lst []) = H5 at xdl hdl ⊢
    refine ⟨Nat.zero_le _, fun fl nfl => ?_⟩
    have xfl : Ex [] H5 (upd H5 fl (.lst [])) := .new nfl
    have D5 := D4.ex xdl (by simp)
    have dfl : d ≠ fl := dne D5 nfl
    have hnl5 := xdl.lst hnl4
    have nlfl : nl ≠ fl := ne_of_none hnl5 nfl
    have dlfl : dl ≠ fl := ne_of_none hdl nfl
    have hfl : (upd H5 fl (.lst [])) fl = some (.lst []) := upd_same
    have hdl6 := xfl.lst hdl
    have hnl6 := xfl.lst hnl5
    have D6 := D5.ex xfl (by simp)
    generalize upd H5 fl (.lst []) = H6 at xfl hfl hdl6 hnl6 D6 ⊢
    refine ⟨.int many, rfl, many, 1, rfl, rfl, _, rfl, by omega, by omega, ?_⟩
    have eM : ((many : Nat) : Int) + 1 = ((many + 1 : Nat) : Int) := by omega
    rw [eM]
    let Pv : Nat → L2.St → Hp → Prop := fun i σ H2 => ∃ (y7 y8 y9 y10 y11 : Option V) (E : List Wo) (Bs : List Lb) (fvs dvs : List V), σ = [some (.ref sc), some (.ref d), some (.ref nl), some (.int many), some (.int way), some (.ref dl), some (.ref fl), y7, y8, y9, y10, y11, none, none, none, none, none, none, none, none, none, none, none] ∧ Deck H2 d ∧ H2 nl = some (.lst (ns.map V.str)) ∧ Bs.length = i ∧ Bok ns many way ((ns[9]?).getD emp) E Bs ∧ H2 fl = some (.lst fvs) ∧ P2 (FvH K [d, fl, dl] H2) fvs Bs ∧ H2 dl = some (.lst dvs) ∧ TpAll K H2 dvs (Bs.map fun b => defD (dfB b))
    refine for_range (lo := 0) (n := (((many + 1 : Nat) : Int)).toNat) Pv ?_ ?_ ?_
    · exact ⟨_, _, _, _, _, [], [], [], [], rfl, D6, hnl6, rfl, ⟨(fun k b h => nomatch h), (fun k b h => nomatch h), (fun k b h => nomatch h), fun b h => nomatch h⟩, hfl, .nil, hdl6, .nil⟩
    · rintro i σ H7 hi ⟨y7, y8, y9, y10, y11, E, Bs, fvs, dvs, rfl, D7, hnl7, lBs, BO, hfl7, pf, hdl7, pd⟩
      have hi : i < many + 1 := hi
      refine ⟨.ref d, rfl, .ref nl, rfl, d, nl, ns, rfl, D7, hnl7, dnl.symm, lns, hN, ndN, fun H8 bl bs nbl x8 D8 hbl ndb lb1 lb4 hb5 => ?_⟩
      have dbl : d ≠ bl := dne D7 nbl
      have flbl : fl ≠ bl := ne_of_none hfl7 nbl
      have dlbl : dl ≠ bl := ne_of_none hdl7 nbl
      have nlbl : nl ≠ bl := ne_of_none hnl7 nbl
      have hnl8 := x8.lst hnl7 (by simpa using dnl.symm)
      have x78 : Ex [d] H7 H8 := x8
      -- the worths
      refine ⟨.ref bl, rfl, bl, rfl, ⟨_, .of hbl⟩, fun D nD => ?_⟩
      have dD : d ≠ D := dne D8 nD
      have blD : bl ≠ D := ne_of_none hbl nD
      have nlD : nl ≠ D := ne_of_none hnl8 nD
      refine lc_list (a := bl) (xs := bs.map V.str) (fun j H9 => ∃ (ps : List Addr) (wl : List Str), H9 D = some (.lst (ps.map V.ref)) ∧ Paired (fun p kv => SqT K H9 p [kV kv.1, kv.2]) ps (((bs.take j).zip wl).map fun p => (qK p.1, V.str p.2)) ∧ wl.length = j ∧ (∀ x ∈ wl, x ∈ ns) ∧ Deck H9 d ∧ Ex [d, D] H8 H9) ?_ ?_ ?_ ?_
      · have xD : Ex [] H8 (upd H8 D (.lst [])) := .new nD
        exact ⟨[], [], upd_same, .nil, rfl, (fun x m => nomatch m), D8.ex xD (by simp), xD.mono (by simp)⟩
      · rintro j H9 _ ⟨ps, wl, _, _, _, _, _, x9⟩
        exact .of (x9.lst hbl (by simp [dbl.symm, blD]))
      · rintro j x H9 hx ⟨ps, wl, hD9, pr9, lw9, hw9, D9, x9⟩
        rw [List.getElem?_map] at hx
        cases hbj : bs[j]? with
        | none => rw [hbj] at hx; cases hx
        | some bq =>
        rw [hbj] at hx
        cases hx
        have hj : j < bs.length := (List.getElem?_eq_some_iff.mp hbj).1
        refine ⟨rfl, .str bq, rfl, .ref nl, rfl, .ref d, rfl, d, 3, rfl, D9, by decide, by decide, fun H10 u u0 u1 x10 D10 => ?_⟩
        have hnl10 : H10 nl = some (.lst (ns.map V.str)) := x10.lst (x9.lst hnl8 (by simp [dnl.symm, nlD])) (by simpa using dnl.symm)
        obtain ⟨un, rfl⟩ : ∃ un : Nat, u = un := ⟨u.toNat, by omega⟩
        have hun : 3 + un < ns.length := by omega
        have eat : atI (ns.map V.str) ((fun i j : Int => i + j) 3 (un : Int)) = some (.str ns[3 + un]) := by
          have e0 : (fun i j : Int => i + j) 3 (un : Int) = ((3 + un : Nat) : Int) := by show (3 : Int) + un = _; omega
          rw [e0]
          refine atN ?_
          rw [List.getElem?_map, List.getElem?_eq_getElem hun]; rfl
        refine ⟨3, un, rfl, rfl, nl, _, _, _, rfl, rfl, .of hnl10, eat, l2, fun t nt => ?_⟩
        have hD10 := x10.lst hD9 (by simpa using dD.symm)
        have y1 : Ex [] H10 (upd H10 t (.tup [.str bq, .str ns[3 + un]])) := .new nt
        have ht : (upd H10 t (.tup [.str bq, .str ns[3 + un]])) t = some (.tup [.str bq, .str ns[3 + un]]) := upd_same
        generalize upd H10 t (.tup [.str bq, .str ns[3 + un]]) = H11 at y1 ht ⊢
        have hD11 := y1.lst hD10
        have lps : ps.length = j := by
          have := pr9.length
          rw [List.length_map, List.length_zip, List.length_take, lw9] at this
          omega
        have y2 : Ex [D] H11 (upd H11 D (.lst (ps.map V.ref ++ [.ref t]))) := .put hD11 nt_lst (by simp)
        have x911 : Ex [d, D] H9 (upd H11 D (.lst (ps.map V.ref ++ [.ref t]))) := ((x10.mono (by simp)).trans (y1.mono (by simp))).trans (y2.mono (by simp))
        refine ⟨ps.map V.ref, hD11, by rw [List.length_map, sizeLine_eq]; omega, ps ++ [t], wl ++ [ns[3 + un]], ?_, ?_, ?_, ?_, (D10.ex y1 (by simp)).ex y2 (by simpa using dD), x9.trans x911⟩
        · rw [upd_same, List.map_append]; rfl
        · have ez : ((bs.take (j + 1)).zip (wl ++ [ns[3 + un]])).map (fun p => (qK p.1, V.str p.2)) = ((bs.take j).zip wl).map (fun p => (qK p.1, V.str p.2)) ++ [(qK bq, V.str ns[3 + un])] := by
            rw [List.take_add_one, hbj]
            show ((bs.take j ++ [bq]).zip (wl ++ [ns[3 + un]])).map _ = _
            rw [List.zip_append (by rw [List.length_take, lw9]; omega), List.map_append]
            rfl
          rw [ez]
          refine Paired.snoc (L2.Paired.mapP pr9 fun p kv h => x911.seqT h) (.of (y2.tup ht))
        · rw [List.length_append, lw9]; rfl
        · intro x mx
          rcases List.mem_append.mp mx with m | m
          · exact hw9 x m
          · rw [List.mem_singleton.mp m]; exact List.getElem_mem _
      · rintro H9 ⟨ps, wl, hD9, pr9, lw9, hw9, D9, x9⟩
        rw [List.length_map] at pr9 lw9
        rw [List.take_length] at pr9
        refine ⟨D, ps, _, rfl, .of hD9, pr9, fun wd nwd => ?_⟩
        have xwd : Ex [] H9 (upd H9 wd (.dK (mergeK [] ((bs.zip wl).map fun p => (qK p.1, V.str p.2))))) := .new nwd
        have hwd0 : (upd H9 wd (.dK (mergeK [] ((bs.zip wl).map fun p => (qK p.1, V.str p.2))))) wd = some (.dK (mergeK [] ((bs.zip wl).map fun p => (qK p.1, V.str p.2)))) := upd_same
        generalize upd H9 wd (.dK (mergeK [] ((bs.zip wl).map fun p => (qK p.1, V.str p.2)))) = H10 at xwd hwd0 ⊢
        obtain ⟨wf, WD, hwn⟩ : ∃ wf : Str → Str, WdH H10 wd wf bs ∧ ∀ q ∈ bs, wf q ∈ ns := by
          have val : ∀ q ∈ bs, ∃ x, valV (mergeK [] ((bs.zip wl).map fun p => (qK p.1, V.str p.2))) (qK q) = some (.str x) ∧ x ∈ ns := fun q mq => by
            have mk : qK q ∈ ((bs.zip wl).map fun p => (qK p.1, V.str p.2)).map (·.1) := by
              rw [List.map_map]
              have e1 : bs = (bs.zip wl).map (·.1) := (List.map_fst_zip (by omega)).symm
              rw [e1] at mq
              obtain ⟨p, mp, ep⟩ := List.mem_map.mp mq
              exact List.mem_map.mpr ⟨p, mp, by rw [← ep]; rfl⟩
            obtain ⟨v, e1, e2⟩ := mergeK_val _ [] _ mk
            rw [List.map_map] at e2
            obtain ⟨p, mp, ev⟩ := List.mem_map.mp e2
            refine ⟨p.2, ?_, hw9 _ (List.of_mem_zip mp).2⟩
            rw [e1, ← ev]; rfl
          refine ⟨fun q => if h : q ∈ bs then (val q h).choose else emp, ⟨_, hwd0, fun q mq => ?_⟩, fun q mq => ?_⟩
          · show _ = some (V.str (if h : q ∈ bs then (val q h).choose else emp)); rw [dif_pos mq]; exact (val q mq).choose_spec.1
          · show (if h : q ∈ bs then (val q h).choose else emp) ∈ ns; rw [dif_pos mq]; exact (val q mq).choose_spec.2
        have x710 : Ex [d, D] H8 H10 := x9.trans (xwd.mono (by simp))
        have hbl10 : H10 bl = some (.lst (bs.map V.str)) := x710.lst hbl (by simp [dbl.symm, blD])
        have hnl10 : H10 nl = some (.lst (ns.map V.str)) := x710.lst hnl8 (by simp [dnl.symm, nlD])
        have D10 := D9.ex xwd (by simp)
        have x7 : Ex [d] H7 H10 := x78.trans (Ex.own nD .refl (x710.mono (by simp)))
        have hwdd : wd ≠ d := fun e => dne D9 nwd e.symm
        -- the row
        refine ⟨.ref bl, rfl, bl, rfl, ⟨_, .of hbl10⟩, fun R nR => ?_⟩
        have blR : bl ≠ R := ne_of_none hbl10 nR
        have wdR : wd ≠ R := fun e => by
          obtain ⟨kvs, w1', _⟩ := WD
          rw [e, nR] at w1'; cases w1'
        refine lc_list (a := bl) (xs := bs.map V.str) (fun j H11 => ∃ xs, H11 R = some (.lst xs) ∧ TpAll K H11 xs ((bs.take j).map fun b => wD (.take b (wf b))) ∧ Ex [R] H10 H11) ?_ ?_ ?_ ?_
        · exact ⟨[], upd_same, .nil, .new nR⟩
        · rintro j H11 _ ⟨_, _, _, x11⟩
          exact .of (x11.lst hbl10 (by simpa using blR))
        · rintro j x H11 hx ⟨xs, hR11, tx11, x11⟩
          rw [List.getElem?_map] at hx
          cases hbj : bs[j]? with
          | none => rw [hbj] at hx; cases hx
          | some bq =>
          rw [hbj] at hx
          cases hx
          have hj : j < bs.length := (List.getElem?_eq_some_iff.mp hbj).1
          obtain ⟨kvs, w1', w2'⟩ := WD.ex x11 (by simpa using wdR)
          have dg : DGet H11 wd (.str bq) (some (.str (wf bq))) := by
            have := DGet.k (k := qK bq) w1'
            rw [w2' bq (List.mem_of_getElem? hbj)] at this
            exact this
          refine ⟨rfl, .str bq, rfl, .ref wd, rfl, .str bq, rfl, wd, _, rfl, dg, l3, fun t nt => ?_⟩
          have y1 : Ex [] H11 (upd H11 t (.tup [.str (Str.ofString "take"), .str bq, .str (wf bq)])) := .new nt
          have ht : (upd H11 t (.tup [.str (Str.ofString "take"), .str bq, .str (wf bq)])) t = some (.tup [.str (Str.ofString "take"), .str bq, .str (wf bq)]) := upd_same
          generalize upd H11 t (.tup [.str (Str.ofString "take"), .str bq, .str (wf bq)]) = H12 at y1 ht ⊢
          have hR12 := y1.lst hR11
          have lxs := tx11.len
          rw [List.length_map, List.length_take] at lxs
          have y2 : Ex [R] H12 (upd H12 R (.lst (xs ++ [.ref t]))) := .put hR12 nt_lst (by simp)
          have y := (y1.mono (ys := [R]) (by simp)).trans y2
          refine ⟨xs, hR12, by rw [sizeLine_eq]; omega, xs ++ [.ref t], upd_same, ?_, x11.trans y⟩
          rw [List.take_add_one, hbj]
          show TpAll K _ _ ((bs.take j ++ [bq]).map fun b => wD (.take b (wf b)))
          rw [List.map_append]
          exact (tx11.ex y).app (.cons (.tup (.of (y2.tup ht)) (.cons (.str _) (.cons (.str _) (.cons (.str _) .nil)))) .nil)
        · rintro H11 ⟨xs, hR11, tx11, x11⟩
          rw [List.length_map, List.take_length] at tx11
          refine ⟨R, _, rfl, .inl ⟨.of hR11, fun rt nrt => ?_⟩⟩
          have xrt : Ex [] H11 (upd H11 rt (.tup xs)) := .new nrt
          have trt : Tp K (upd H11 rt (.tup xs)) (.ref rt) (rowD (takesL ⟨nmK ns many i, bs, wf⟩)) := by
            refine .tup (.of upd_same) ?_
            unfold takesL
            rw [List.map_map]
            exact tx11.ex xrt
          generalize upd H11 rt (.tup xs) = H12 at xrt trt ⊢
          have x1012 : Ex [] H10 H12 := (Ex.own nR .refl (x11.mono (by simp))).trans xrt
          have x12 : Ex [d] H7 H12 := x7.trans (x1012.mono (by simp))
          have D12 := D10.ex x1012 (by simp)
          have hbl12 := x1012.lst hbl10
          have hnl12 := x1012.lst hnl10
          have WD12 := WD.ex x1012 (by simp)
          have lt : (takesL ⟨nmK ns many i, bs, wf⟩).length = bs.length := by unfold takesL; rw [List.length_map]
          have hwdfl : wd ≠ fl := fun e => by
            have := x9.f _ nwd
            have := x78.f _ this
            rw [e, hfl7] at this; cases this
          have hwddl : wd ≠ dl := fun e => by
            have := x9.f _ nwd
            have := x78.f _ this
            rw [e, hdl7] at this; cases this
          have lfv : fvs.length ≤ 100 := by rw [pf.len, lBs]; omega
          have ldv : dvs.length ≤ 100 := by rw [pd.len, List.length_map, lBs]; omega
          have fin : ∀ (H13 : Hp) (p : Addr) (T : List Wo) (E' : List Wo) (y11 : Option V), Ex [d] H7 H13 → Ex [d] H12 H13 → Deck H13 d → Tp K H13 (.ref p) (rowD (takesL ⟨nmK ns many i, bs, wf⟩ ++ T)) → T = (if i = 0 then E' else [.call (nmK ns many (i - 1)) [] []]) → (i = 0 → EndOk way ((ns[9]?).getD emp) bs E') → (i ≠ 0 → E' = E) →
              tC K { nx := fun σ' H' => Pv (i + 1) σ' H', rt := fun v H' => Q v H' } [some (.ref sc), some (.ref d), some (.ref nl), some (.int many), some (.int way), some (.ref dl), some (.ref fl), some (.int (0 + (i : Int))), some (.ref bl), some (.ref wd), some (.ref p), y11, none, none, none, none, none, none, none, none, none, none, none] H13 := by
            intro H13 p T E' y11 x713 x1213 D13 tp eT hE0 hE1
            refine ⟨_, _, d, nl, dl, fl, bl, wd, p, ns, many, i, way, bs, wf, _, fvs, dvs, rfl, x1213.lst hnl12 (by simpa using dnl.symm), lns, by omega, mb.2, x1213.lst hbl12 (by simpa using dbl.symm), WD12.ex x1213 (by simpa using hwdd), tp, x713.lst hfl7 (by simpa using dfl.symm), x713.lst hdl7 (by simpa using ddl.symm), lfv, ldv, dlfl.symm, flbl.symm, dlbl.symm, hwdfl, hwddl, dbl.symm, hwdd, fun H' y11' fv dv x' hf' hv' hd' td' => ?_⟩
            have x7' : Ex [d, fl, dl] H7 H' := (x713.mono (by simp)).trans (x'.mono (by simp))
            refine ⟨_, _, _, _, _, E', Bs ++ [⟨⟨nmK ns many i, bs, wf⟩, takesL ⟨nmK ns many i, bs, wf⟩ ++ T⟩], fvs ++ [fv], dvs ++ [dv], rfl, D13.ex x' (by simp [dfl, ddl]), x'.lst (x1213.lst hnl12 (by simpa using dnl.symm)) (by simp [nlfl, nldl]), by rw [List.length_append, lBs]; rfl, ?_, hf', (pf.imp fun v b h => h.ex x7' (by simp)).app (.cons hv' .nil), hd', ?_⟩
            · have at' : ∀ (k : Nat) (b : Lb), (Bs ++ [⟨⟨nmK ns many i, bs, wf⟩, takesL ⟨nmK ns many i, bs, wf⟩ ++ T⟩])[k]? = some b → (Bs[k]? = some b ∧ k < i) ∨ (k = i ∧ b = ⟨⟨nmK ns many i, bs, wf⟩, takesL ⟨nmK ns many i, bs, wf⟩ ++ T⟩) := fun k b h => by
                rcases Nat.lt_or_ge k Bs.length with lk | lk
                · rw [List.getElem?_append_left lk] at h
                  exact .inl ⟨h, by omega⟩
                · rw [List.getElem?_append_right lk] at h
                  have lk2 : k - Bs.length < 1 := (List.getElem?_eq_some_iff.mp h).1
                  have ek : k - Bs.length = 0 := by omega
                  rw [ek] at h
                  cases h
                  exact .inr ⟨by omega, rfl⟩
              refine ⟨fun k b h => ?_, fun k b h => ?_, fun k b h => ?_, fun b h => ?_⟩
              · rcases at' k b h with ⟨h, _⟩ | ⟨rfl, rfl⟩
                · exact BO.nm k b h
                · rfl
              · rcases at' k b h with ⟨h, _⟩ | ⟨rfl, rfl⟩
                · exact BO.bs k b h
                · exact ⟨lb1, lb4, ndb, hb5, hwn⟩
              · rcases at' k b h with ⟨h, lk⟩ | ⟨rfl, rfl⟩
                · rw [BO.r k b h, hE1 (by omega)]
                · show _ ++ T = _
                  rw [eT]
              · rcases at' 0 b h with ⟨h, lk⟩ | ⟨e0, rfl⟩
                · rw [hE1 (by omega)]; exact BO.en b h
                · exact hE0 e0.symm
            · rw [List.map_append]
              exact (pd.ex x7').app (.cons td' .nil)
          refine ⟨.int (0 + (i : Int)), rfl, rfl, _, rfl, ?_⟩
          by_cases e0 : i = 0
          · refine itD (show V.int (0 + (i : Int)) = V.int 0 by rw [e0]; rfl) ?_
            have eat : atI (ns.map V.str) 9 = some (.str ((ns[9]?).getD emp)) := by
              have hl : 9 < ns.length := by omega
              refine atI_nat (j := 9) ?_
              rw [List.getElem?_map, List.getElem?_eq_getElem hl]; rfl
            refine ⟨.ref rt, rfl, .ref d, rfl, .int way, rfl, .ref bl, rfl, .ref nl, rfl, nl, _, 9, _, rfl, rfl, .of hnl12, eat, d, bl, way, _, bs, rfl, D12, hbl12, dbl.symm, lb1, by omega, w0, w1, fun H13 t E' x13 D13 tE eo => ?_⟩
            have lE : E'.length ≤ 1 := by rcases eo with ⟨_, e⟩ | ⟨_, e⟩ | ⟨_, e⟩ | ⟨_, e⟩ | ⟨_, _, _, e, _⟩ <;> (rw [e]; first | exact Nat.le_refl 1 | exact Nat.zero_le 1)
            refine row_cat (trt.ex x13) tE (by rw [lt]; omega) fun p H14 x14 tp => ?_
            exact fin H14 p E' E' _ ((x12.trans x13).trans (x14.mono (by simp))) (x13.trans (x14.mono (by simp))) (D13.ex x14 (by simp)) tp (by rw [if_pos e0]) (fun _ => eo) (fun z => absurd e0 z)
          · refine itN (fun z => e0 (by have := V.int.inj z; omega)) ?_
            have eat : atI (ns.map V.str) ((fun i j : Int => i + j) 9 (0 + (i : Int))) = some (.str (nmK ns many (i - 1))) := by
              have e1 : (fun i j : Int => i + j) 9 (0 + (i : Int)) = ((9 + i : Nat) : Int) := by show (9 : Int) + (0 + i) = _; omega
              have hl : 9 + i < ns.length := by omega
              rw [e1]
              refine atN ?_
              rw [List.getElem?_map, List.getElem?_eq_getElem hl]
              unfold nmK
              rw [if_neg (by omega), show 10 + (i - 1) = 9 + i by omega, List.getElem?_eq_getElem hl]; rfl
            refine ⟨.ref rt, rfl, .ref nl, rfl, .int (0 + (i : Int)), rfl, 9, _, rfl, rfl, nl, _, _, _, rfl, rfl, .of hnl12, eat, l0, fun t1 n1 => ⟨l0, fun t2 n2 => ⟨(by show 4 ≤ sizeLine; decide), fun t3 n3 => ⟨l1, fun t4 n4 => ?_⟩⟩⟩⟩
            have y1 : Ex [] H12 (upd H12 t1 (.tup [])) := .new n1
            have y2 : Ex [] (upd H12 t1 (.tup [])) (upd (upd H12 t1 (.tup [])) t2 (.tup [])) := .new n2
            have y3 : Ex [] (upd (upd H12 t1 (.tup [])) t2 (.tup [])) (upd (upd (upd H12 t1 (.tup [])) t2 (.tup [])) t3 (.tup [.str (Str.ofString "call"), .str (nmK ns many (i - 1)), .ref t1, .ref t2])) := .new n3
            have y4 : Ex [] (upd (upd (upd H12 t1 (.tup [])) t2 (.tup [])) t3 (.tup [.str (Str.ofString "call"), .str (nmK ns many (i - 1)), .ref t1, .ref t2])) (upd (upd (upd (upd H12 t1 (.tup [])) t2 (.tup [])) t3 (.tup [.str (Str.ofString "call"), .str (nmK ns many (i - 1)), .ref t1, .ref t2])) t4 (.tup [.ref t3])) := .new n4
            have h1 := y4.tup (y3.tup (y2.tup (upd_same (H := H12) (a := t1) (o := .tup []))))
            have h2 := y4.tup (y3.tup (upd_same (H := upd H12 t1 (.tup [])) (a := t2) (o := .tup [])))
            have h3 := y4.tup (upd_same (H := upd (upd H12 t1 (.tup [])) t2 (.tup [])) (a := t3) (o := .tup [.str (Str.ofString "call"), .str (nmK ns many (i - 1)), .ref t1, .ref t2]))
            have h4 : (upd (upd (upd (upd H12 t1 (.tup [])) t2 (.tup [])) t3 (.tup [.str (Str.ofString "call"), .str (nmK ns many (i - 1)), .ref t1, .ref t2])) t4 (.tup [.ref t3])) t4 = some (.tup [.ref t3]) := upd_same
            have y := ((y1.trans y2).trans y3).trans y4
            generalize upd (upd (upd (upd H12 t1 (.tup [])) t2 (.tup [])) t3 (.tup [.str (Str.ofString "call"), .str (nmK ns many (i - 1)), .ref t1, .ref t2])) t4 (.tup [.ref t3]) = H13 at y h1 h2 h3 h4 ⊢
            refine row_cat (B := [.call (nmK ns many (i - 1)) [] []]) (trt.ex y) (.tup (.of h4) (.cons (.tup (.of h3) (.cons (.str _) (.cons (.str _) (.cons (.tup (.of h1) .nil) (.cons (.tup (.of h2) .nil) .nil))))) .nil)) (by rw [lt]; show bs.length + 1 ≤ 1000; omega) fun p H14 x14 tp => ?_
            exact fin H14 p _ E _ ((x12.trans (y.mono (by simp))).trans (x14.mono (by simp))) ((y.trans x14).mono (by simp)) ((D12.ex y (by simp)).ex x14 (by simp)) tp (by rw [if_neg e0]) (fun z => absurd z e0) (fun _ => rfl)
    · rintro σ H7 ⟨y7, y8, y9, y10, y11, E, Bs, fvs, dvs, rfl, D7, hnl7, lBs, BO, hfl7, pf, hdl7, pd⟩
      exact ⟨_, _, _, _, _, _, d, nl, dl, fl, ns, many, way, E, Bs, fvs, dvs, rfl, D7, hnl7, dnl.symm, lns, hN, ndN, mb.1, mb.2, w0, w1, lBs, BO, hfl7, pf, hdl7, pd, dfl.symm, ddl.symm, dlfl.symm, nlfl, nldl, q⟩
end
end K13

set_option maxHeartbeats 4000000
namespace Kk
open PySem PySem.Spec PyProof.Rows L2
/-- the end of a law; what the top has told is handed on -/
theorem walkT {l : PySem.W.OpenLaw} {m lev : Nat} {q : Program} {loose : List Str} {XP : (Str → Option Value) → Heap → Prop} {YP : World → Heap → Prop} {dr : DefRec} {K : Params → PySem.W.Frag} {x : Str}
    (most : l.most = some m) (small : m ≤ sizeLine) (nodef : dr.params.defaults = []) (room : Room lev callerA) (written : ∀ (w : World) (h : Heap), YP w h → (K w.params).In h)
    (F : ∀ (w : World) (mg mb : Str → Option Value) (mean : ExcName → Option Value) (fa : Addr) (h : Heap), (K w.params).In h → PyProof.Rows.Top q (PySem.W.looseW q loose) mean mg mb h → mg dr.name = some (.ref fa) →
      LamX.LawAtS l w (K w.params) CX0 lev m x mg fa h) :
    PySem.W.WalkO q loose XP YP l.row.toRowW dr [] (fun f vs => PySem.call f vs) := by
  refine Att.attach_callB most nodef fun w s0 s1 mg mb fa o pm cd doc a vs ns gr Y ho hd hcd hmg hobj hin hlen hbits hgens => ?_
  have inK := written w _ Y
  obtain ⟨fd, tabs, sp, tAt, tOut, tHd, bind, prom, ok⟩ := F w mg mb _ fa _ inK gr.T hmg
  refine LamX.law_callTs inK gr.T.g gr.T.b gr.T.builtins gr.T.nolimit hgens tAt tOut tHd gr.T.bmain hobj hin (Nat.le_trans hlen small) room ok bind ?_ ?_
  · exact fun H hH hS => prom H a ns hlen hbits hH hS
  · exact fun H e s' z => z
end Kk
namespace K13
open PySem PySem.Spec PyProof.Rows L2 Kk RZ
/-- where a def stands -/
structure AtN (K : PySem.W.Frag) (x : Str) (st : Stmt) (f : Addr) (fd : FuncData) : Prop where
  a : PySem.W.nsIn K mainGlobals x = some (some (.ref f))
  F : Fun K x x st f fd
theorem at_mk {K : PySem.W.Frag} {x : Str} {st : Stmt} {f : Addr} {oc : Value} {od an : Option Addr} {sl : Array (Option Value)} {kV doc pm cd ct : Value} (a : PySem.W.nsIn K mainGlobals x = some (some (.ref f)))
    (l : K.lookup f = some ⟨oc, od, .func (PySem.W.fnOf x x (defArgs st) (defBody st) (defScope st) .none kV doc pm an cd ct), sl⟩) (c : PySem.W.codeIn K cd x = true) (k : PySem.W.keepIn K (.ref f) = true) :
    AtN K x st f (PySem.W.fnOf x x (defArgs st) (defBody st) (defScope st) .none kV doc pm an cd ct) := ⟨a, fun_mk l c k⟩
/-- where a def of a class stands -/
structure AtM (K : PySem.W.Frag) (C : Addr) (m x : Str) (st : Stmt) (f : Addr) (fd : FuncData) : Prop where
  a : PySem.W.findIn K (.ref C) m = some (some (.ref f))
  i : PySem.W.isFn K (.ref f) = true
  k : PySem.W.keepIn K (.ref f) = true
  F : Fun K m x st f fd
theorem atM_mk {K : PySem.W.Frag} {C : Addr} {m x : Str} {st : Stmt} {f : Addr} {oc : Value} {od an : Option Addr} {sl : Array (Option Value)} {kV doc pm cd ct : Value} (a : PySem.W.findIn K (.ref C) m = some (some (.ref f))) (i : PySem.W.isFn K (.ref f) = true)
    (l : K.lookup f = some ⟨oc, od, .func (PySem.W.fnOf m x (defArgs st) (defBody st) (defScope st) .none kV doc pm an cd ct), sl⟩) (c : PySem.W.codeIn K cd x = true) (k : PySem.W.keepIn K (.ref f) = true) :
    AtM K C m x st f (PySem.W.fnOf m x (defArgs st) (defBody st) (defScope st) .none kV doc pm an cd ct) := ⟨a, i, k, fun_mk l c k⟩
/-- where a class stands -/
structure AtC (K : PySem.W.Frag) (x : Str) (C : Addr) : Prop where
  a : PySem.W.nsIn K mainGlobals x = some (some (.ref C))
  pg : PySem.W.plainGet K C Str.empty = true
  hd : PySem.W.hasDictIn K C = true
  po : PySem.W.plainOver K C = true
  sa : PySem.W.findIn K (.ref C) "__setattr__" = some (some (.builtin "object.__setattr__"))
  ms : PySem.W.makesIn K C = true
  kc : PySem.W.keepIn K (.ref C) = true
theorem atC_mk {K : PySem.W.Frag} {x : Str} {C : Addr} (a : PySem.W.nsIn K mainGlobals x = some (some (.ref C))) (pg : PySem.W.plainGet K C Str.empty = true) (hd : PySem.W.hasDictIn K C = true) (po : PySem.W.plainOver K C = true) (sa : PySem.W.findIn K (.ref C) "__setattr__" = some (some (.builtin "object.__setattr__"))) (mk : PySem.W.makesIn K C = true) (kc : PySem.W.keepIn K (.ref C) = true) : AtC K x C := ⟨a, pg, hd, po, sa, mk, kc⟩
/-- a tuple of the written part -/
def TuA (K : PySem.W.Frag) (t : Addr) (vs : List V) : Prop := ∃ d its n sl, K.lookup t = some ⟨.type "tuple", d, .seq its n, sl⟩ ∧ its.size ≤ sizeLine ∧ Vals vs its.toList
theorem tuA_mk {K : PySem.W.Frag} {t : Addr} {vs : List V} {d : Option Addr} {its : Array Value} {n : Nat} {sl : Array (Option Value)} (l : K.lookup t = some ⟨.type "tuple", d, .seq its n, sl⟩) (z : its.size ≤ sizeLine) (v : Vals vs its.toList) : TuA K t vs := ⟨d, its, n, sl, l, z, v⟩
theorem TuA.sq {K : PySem.W.Frag} {t : Addr} {vs : List V} (h : TuA K t vs) (H : Hp) : SqT K H t vs := by
  obtain ⟨d, its, n, sl, l, z, v⟩ := h
  exact .inr ⟨_, its, n, l, rfl, rfl, z, v⟩
theorem all_mk {l : PySem.W.OpenLaw} {w : World} {K : PySem.W.Frag} {q : Program} {loose : List Str} {mean : ExcName → Option Value} {h : Heap} {mg mb : Str → Option Value} {fa fL pA nA eA CF CR : Addr} {f0 f1 f2 f3 f4 f5 f6 f7 f8 f9 f10 f11 f12 f13 f14 f15 f16 f17 f18 f19 f20 f21 f22 f23 f24 f25 f26 f27 : Addr} {p0 p1 p2 p3 p4 p5 p6 p7 : Addr}
    {fd0 fd1 fd2 fd3 fd4 fd5 fd6 fd7 fd8 fd9 fd10 fd11 fd12 fd13 fd14 fd15 fd16 fd17 fd18 fd19 fd20 fd21 fd22 fd23 fd24 fd25 fd26 fd27 gd0 gd1 gd2 gd3 gd4 gd5 gd6 gd7 : FuncData} {ocL kVL docL pmL cdL ctL : Value} {odL anL : Option Addr} {slL : Array (Option Value)} {tk1 tk2 : Tok}
    (X : K.In h) (top : PyProof.Rows.Top q loose mean mg mb h) (hfa : mg "law" = some (.ref fa))
    (KCF : AtC K "Frame" CF) (nCF_place : PySem.W.findIn K (.ref CF) "place" = some none) (nCF_boxes : PySem.W.findIn K (.ref CF) "boxes" = some none)
    (KCR : AtC K "Run" CR) (nCR_program : PySem.W.findIn K (.ref CR) "program" = some none) (nCR_answers : PySem.W.findIn K (.ref CR) "answers" = some none) (nCR_wanted : PySem.W.findIn K (.ref CR) "wanted" = some none) (nCR_steps : PySem.W.findIn K (.ref CR) "steps" = some none) (nCR_told : PySem.W.findIn K (.ref CR) "told" = some none) (nCR_left : PySem.W.findIn K (.ref CR) "left" = some none) (nCR_ending : PySem.W.findIn K (.ref CR) "ending" = some none) (nCR_frames : PySem.W.findIn K (.ref CR) "frames" = some none)
    (B0 : AtM K CF "__init__" "Frame.__init__" s_finit p0 gd0)
    (B1 : AtM K CF "holds" "Frame.holds" s_holds p1 gd1)
    (B2 : AtM K CF "held" "Frame.held" s_held p2 gd2)
    (B3 : AtM K CR "__init__" "Run.__init__" s_rinit p3 gd3)
    (B4 : AtM K CR "word" "Run.word" s_word p4 gd4)
    (B5 : AtM K CR "lacks_answer" "Run.lacks_answer" s_lacks p5 gd5)
    (B6 : AtM K CR "next_answer" "Run.next_answer" s_next p6 gd6)
    (B7 : AtM K CR "leave" "Run.leave" s_leave p7 gd7)
    (A0 : AtN K "in_record" s_rec f0 fd0)
    (A1 : AtN K "is_whole" s_is_whole f1 fd1)
    (A2 : AtN K "def_of" s_def_of f2 fd2)
    (A3 : AtN K "row_of" s_row_of f3 fd3)
    (A4 : AtN K "row_around" s_around f4 fd4)
    (A5 : AtN K "word_at" s_wordat f5 fd5)
    (A6 : AtN K "behind" s_behind f6 fd6)
    (A7 : AtN K "first_place" s_first f7 fd7)
    (A8 : AtN K "head_of" s_head f8 fd8)
    (A9 : AtN K "choices_of" s_choices f9 fd9)
    (A10 : AtN K "leads_of" s_leads f10 fd10)
    (A11 : AtN K "empties" s_empties f11 fd11)
    (A12 : AtN K "put_by" s_put f12 fd12)
    (A13 : AtN K "do_boxes" s_do f13 fd13)
    (A14 : AtN K "do_plain" s_plain f14 fd14)
    (A15 : AtN K "do_call" s_call f15 fd15)
    (A16 : AtN K "do_back" s_back f16 fd16)
    (A17 : AtN K "do_fault" s_fault f17 fd17)
    (A18 : AtN K "do_ends" s_ends f18 fd18)
    (A19 : AtN K "do_step" s_step f19 fd19)
    (A20 : AtN K "run" s_run f20 fd20)
    (A21 : AtN K "_law_deck" s_deck f21 fd21)
    (A22 : AtN K "_law_draw" s_draw f22 fd22)
    (A23 : AtN K "_law_some" s_some f23 fd23)
    (A24 : AtN K "_law_names" s_names f24 fd24)
    (A25 : AtN K "_law_boxes_of" s_lboxes f25 fd25)
    (A26 : AtN K "_law_end_words" s_endw f26 fd26)
    (A27 : AtN K "_law_entries" s_entr f27 fd27)
    (aL : PySem.W.nsIn K mainGlobals "law" = some (some (.ref fL))) (lL : K.lookup fL = some ⟨ocL, odL, .func (PySem.W.fnOf "law" "law" (defArgs s_law) (defBody s_law) (defScope s_law) .none kVL docL pmL anL cdL ctL), slL⟩) (cL : PySem.W.codeIn K cdL "law" = true) (kL : PySem.W.keepIn K (.ref fL) = true)
    (gM : PySem.W.nsIn K mainGlobals "MOST_NUMBER" = some (some (.int 9999 tk1))) (gX : PySem.W.nsIn K mainGlobals "MIXED_BY" = some (some (.int 10007 tk2)))
    (gP : PySem.W.nsIn K mainGlobals "PUTTING" = some (some (.ref pA))) (tP : TuA K pA ([Str.ofString "take", Str.ofString "ask", Str.ofString "number", Str.ofString "copy", Str.ofString "mix", Str.ofString "open"].map V.str)) (gN : PySem.W.nsIn K mainGlobals "NOTHING" = some (some (.ref nA))) (tN : TuA K nA [.int 0, .ref eA]) (tE : TuA K eA [])
    (z0 : PySem.W.nsIn K mainGlobals "isinstance" = some none) (z1 : PySem.W.nsIn K mainGlobals "int" = some none) (z2 : PySem.W.nsIn K mainGlobals "bool" = some none) (z3 : PySem.W.nsIn K mainGlobals "tuple" = some none) (z4 : PySem.W.nsIn K mainGlobals "sorted" = some none) (z5 : PySem.W.nsIn K mainGlobals "set" = some none) (z6 : PySem.W.nsIn K mainGlobals "list" = some none) (z7 : PySem.W.nsIn K mainGlobals "len" = some none) (z8 : PySem.W.nsIn K mainGlobals "range" = some none) (z9 : PySem.W.nsIn K mainGlobals "sum" = some none) (z10 : PySem.W.nsIn K mainGlobals "enumerate" = some none) (z11 : PySem.W.nsIn K mainGlobals "zip" = some none) (z12 : PySem.W.nsIn K mainGlobals "dict" = some none) :
    LamX.LawAtS l w K CX0 10 63 "_law_script" mg fa h := by
  have G := top.g
  have e := hfa.symm.trans (PySem.W.mg_of X G aL)
  cases e
  have FL := fun_mk (st := s_law) lL cL kL
  refine ⟨PySem.W.fnOf "law" "law" (defArgs s_law) (defBody s_law) (defScope s_law) .none kVL docL pmL anL cdL ctL, [], spLaw K, ?_, ?_, ?_, fun s v => .of_eq rfl, ?_, fun base inB gls tabs => ?_⟩
  · intro p hp; cases hp
  · intro p hp; cases hp
  · intro p hp; cases hp
  · intro H a ns hl _ hH hS
    exact ⟨a, ns, rfl, hS, fun _ => rfl⟩
  · have T : TF K mg CF := ⟨⟨KCF.pg, KCF.hd, KCF.po, KCF.sa⟩, nCF_place, nCF_boxes, PySem.W.mg_of X G KCF.a⟩
    have TRn : TR K mg CR := ⟨⟨KCR.pg, KCR.hd, KCR.po, KCR.sa⟩, nCR_program, nCR_answers, nCR_wanted, nCR_steps, nCR_told, nCR_left, nCR_ending, nCR_frames, PySem.W.mg_of X G KCR.a⟩
    have N : Nth K mg nA eA := ⟨PySem.W.mg_of X G gN, tN.sq, tE.sq⟩
    have m_isinstance := PySem.W.mg_none_of X G z0
    have m_int := PySem.W.mg_none_of X G z1
    have m_bool := PySem.W.mg_none_of X G z2
    have m_tuple := PySem.W.mg_none_of X G z3
    have m_sorted := PySem.W.mg_none_of X G z4
    have m_set := PySem.W.mg_none_of X G z5
    have m_list := PySem.W.mg_none_of X G z6
    have m_len := PySem.W.mg_none_of X G z7
    have m_range := PySem.W.mg_none_of X G z8
    have m_sum := PySem.W.mg_none_of X G z9
    have m_enumerate := PySem.W.mg_none_of X G z10
    have m_zip := PySem.W.mg_none_of X G z11
    have m_dict := PySem.W.mg_none_of X G z12
    have gb0 := B0.F.binds (ps := ["self", "place"]) fun _ _ _ _ _ _ us hl => match us, hl with | [_, _], _ => rfl
    have gb1 := B1.F.binds (ps := ["self", "box"]) fun _ _ _ _ _ _ us hl => match us, hl with | [_, _], _ => rfl
    have gb2 := B2.F.binds (ps := ["self"]) fun _ _ _ _ _ _ us hl => match us, hl with | [_], _ => rfl
    have gb3 := B3.F.binds (ps := ["self", "program", "answers"]) fun _ _ _ _ _ _ us hl => match us, hl with | [_, _, _], _ => rfl
    have gb4 := B4.F.binds (ps := ["self"]) fun _ _ _ _ _ _ us hl => match us, hl with | [_], _ => rfl
    have gb5 := B5.F.binds (ps := ["self"]) fun _ _ _ _ _ _ us hl => match us, hl with | [_], _ => rfl
    have gb6 := B6.F.binds (ps := ["self", "choices"]) fun _ _ _ _ _ _ us hl => match us, hl with | [_, _], _ => rfl
    have gb7 := B7.F.binds (ps := ["self", "frame", "boxes"]) fun _ _ _ _ _ _ us hl => match us, hl with | [_, _, _], _ => rfl
    have g0 := PySem.W.mg_of X G A0.a
    have b0 := A0.F.binds (ps := ["box", "name"]) fun _ _ _ _ _ _ us hl => match us, hl with | [_, _], _ => rfl
    have g1 := PySem.W.mg_of X G A1.a
    have b1 := A1.F.binds (ps := ["thing"]) fun _ _ _ _ _ _ us hl => match us, hl with | [_], _ => rfl
    have g2 := PySem.W.mg_of X G A2.a
    have b2 := A2.F.binds (ps := ["program", "name"]) fun _ _ _ _ _ _ us hl => match us, hl with | [_, _], _ => rfl
    have g3 := PySem.W.mg_of X G A3.a
    have b3 := A3.F.binds (ps := ["program", "name"]) fun _ _ _ _ _ _ us hl => match us, hl with | [_, _], _ => rfl
    have g4 := PySem.W.mg_of X G A4.a
    have b4 := A4.F.binds (ps := ["program", "place"]) fun _ _ _ _ _ _ us hl => match us, hl with | [_, _], _ => rfl
    have g5 := PySem.W.mg_of X G A5.a
    have b5 := A5.F.binds (ps := ["program", "place"]) fun _ _ _ _ _ _ us hl => match us, hl with | [_, _], _ => rfl
    have g6 := PySem.W.mg_of X G A6.a
    have b6 := A6.F.binds (ps := ["program", "place"]) fun _ _ _ _ _ _ us hl => match us, hl with | [_, _], _ => rfl
    have g7 := PySem.W.mg_of X G A7.a
    have b7 := A7.F.binds (ps := ["program", "name"]) fun _ _ _ _ _ _ us hl => match us, hl with | [_, _], _ => rfl
    have g8 := PySem.W.mg_of X G A8.a
    have b8 := A8.F.binds (ps := ["program", "name"]) fun _ _ _ _ _ _ us hl => match us, hl with | [_, _], _ => rfl
    have g9 := PySem.W.mg_of X G A9.a
    have b9 := A9.F.binds (ps := ["word"]) fun _ _ _ _ _ _ us hl => match us, hl with | [_], _ => rfl
    have g10 := PySem.W.mg_of X G A10.a
    have b10 := A10.F.binds (ps := ["program", "place"]) fun _ _ _ _ _ _ us hl => match us, hl with | [_, _], _ => rfl
    have g11 := PySem.W.mg_of X G A11.a
    have b11 := A11.F.binds (ps := ["word", "box"]) fun _ _ _ _ _ _ us hl => match us, hl with | [_, _], _ => rfl
    have g12 := PySem.W.mg_of X G A12.a
    have b12 := A12.F.binds (ps := ["word", "frame", "answer"]) fun _ _ _ _ _ _ us hl => match us, hl with | [_, _, _], _ => rfl
    have g13 := PySem.W.mg_of X G A13.a
    have b13 := A13.F.binds (ps := ["now", "frame", "word", "answer"]) fun _ _ _ _ _ _ us hl => match us, hl with | [_, _, _, _], _ => rfl
    have g14 := PySem.W.mg_of X G A14.a
    have b14 := A14.F.binds (ps := ["now", "word", "answer"]) fun _ _ _ _ _ _ us hl => match us, hl with | [_, _, _], _ => rfl
    have g15 := PySem.W.mg_of X G A15.a
    have b15 := A15.F.binds (ps := ["now", "word"]) fun _ _ _ _ _ _ us hl => match us, hl with | [_, _], _ => rfl
    have g16 := PySem.W.mg_of X G A16.a
    have b16 := A16.F.binds (ps := ["now"]) fun _ _ _ _ _ _ us hl => match us, hl with | [_], _ => rfl
    have g17 := PySem.W.mg_of X G A17.a
    have b17 := A17.F.binds (ps := ["now", "fault"]) fun _ _ _ _ _ _ us hl => match us, hl with | [_, _], _ => rfl
    have g18 := PySem.W.mg_of X G A18.a
    have b18 := A18.F.binds (ps := ["now"]) fun _ _ _ _ _ _ us hl => match us, hl with | [_], _ => rfl
    have g19 := PySem.W.mg_of X G A19.a
    have b19 := A19.F.binds (ps := ["now"]) fun _ _ _ _ _ _ us hl => match us, hl with | [_], _ => rfl
    have g20 := PySem.W.mg_of X G A20.a
    have b20 := A20.F.binds (ps := ["program", "answers", "most"]) fun _ _ _ _ _ _ us hl => match us, hl with | [_, _, _], _ => rfl
    have g21 := PySem.W.mg_of X G A21.a
    have b21 := A21.F.binds (ps := ["_law_script"]) fun _ _ _ _ _ _ us hl => match us, hl with | [_], _ => rfl
    have g22 := PySem.W.mg_of X G A22.a
    have b22 := A22.F.binds (ps := ["_law_deck_here", "_law_most"]) fun _ _ _ _ _ _ us hl => match us, hl with | [_, _], _ => rfl
    have g23 := PySem.W.mg_of X G A23.a
    have b23 := A23.F.binds (ps := ["_law_deck_here", "_law_few", "_law_most"]) fun _ _ _ _ _ _ us hl => match us, hl with | [_, _, _], _ => rfl
    have g24 := PySem.W.mg_of X G A24.a
    have b24 := A24.F.binds (ps := ["_law_deck_here", "_law_many"]) fun _ _ _ _ _ _ us hl => match us, hl with | [_, _], _ => rfl
    have g25 := PySem.W.mg_of X G A25.a
    have b25 := A25.F.binds (ps := ["_law_deck_here", "_law_names_here"]) fun _ _ _ _ _ _ us hl => match us, hl with | [_, _], _ => rfl
    have g26 := PySem.W.mg_of X G A26.a
    have b26 := A26.F.binds (ps := ["_law_deck_here", "_law_way", "_law_boxes", "_law_fault"]) fun _ _ _ _ _ _ us hl => match us, hl with | [_, _, _, _], _ => rfl
    have g27 := PySem.W.mg_of X G A27.a
    have b27 := A27.F.binds (ps := ["_law_place", "_law_boxes", "_law_worths"]) fun _ _ _ _ _ _ us hl => match us, hl with | [_, _, _], _ => rfl
    have o_rec : FnOk l.prog w K mg base CX0 1 f0 fd0 ["box", "name"] spRec := ok_rec A0.F
    have o_whole : FnOk l.prog w K mg base CX0 1 f1 fd1 ["thing"] spWholeI := ok_is_whole A1.F m_isinstance m_int m_bool
    have o_first : FnOk l.prog w K mg base CX0 1 f7 fd7 ["program", "name"] spFirst := ok_first A7.F
    have o_ch : FnOk l.prog w K mg base CX0 1 f9 fd9 ["word"] (spChoices K) := ok_choices A9.F ⟨_, PySem.W.mg_of X G gM⟩ m_len
    have o_df : FnOk l.prog w K mg base CX0 1 f2 fd2 ["program", "name"] (spDefOf K) := ok_def_of A2.F
    have o_ro : FnOk l.prog w K mg base CX0 2 f3 fd3 ["program", "name"] (spRowOf K) := ok_row_of A3.F ⟨o_df.mono (by decide), A2.F.kp, b2, g2⟩
    have o_head : FnOk l.prog w K mg base CX0 2 f8 fd8 ["program", "name"] (spHead K flatG) := ok_head A8.F ⟨o_df.mono (by decide), A2.F.kp, b2, g2⟩
    have o_ar : FnOk l.prog w K mg base CX0 3 f4 fd4 ["program", "place"] (spAround K) := ok_around A4.F ⟨o_ro.mono (by decide), A3.F.kp, b3, g3⟩ m_len m_range
    have o_wa : FnOk l.prog w K mg base CX0 4 f5 fd5 ["program", "place"] (spWordAt K flatG) := ok_wordat A5.F ⟨o_ar.mono (by decide), A4.F.kp, b4, g4⟩ m_len
    have o_be : FnOk l.prog w K mg base CX0 4 f6 fd6 ["program", "place"] (spBehind K flatG) := ok_behind A6.F ⟨o_ar.mono (by decide), A4.F.kp, b4, g4⟩ m_len
    have o_le : FnOk l.prog w K mg base CX0 5 f10 fd10 ["program", "place"] (spLeads K flatG) := ok_leads A10.F ⟨o_wa.mono (by decide), A5.F.kp, b5, g5⟩ ⟨o_ch.mono (by decide), A9.F.kp, b9, g9⟩ ⟨o_be.mono (by decide), A6.F.kp, b6, g6⟩
    have o_em : FnOk l.prog w K mg base CX0 2 f11 fd11 ["word", "box"] (spEmpties K) := ok_empties A11.F ⟨o_rec.mono (by decide), A0.F.kp, b0, g0⟩
    have o_fi : FnOk l.prog w K mg base CX0 1 p0 gd0 ["self", "place"] (spFInit CF) := ok_finit B0.F T
    have o_ho : FnOk l.prog w K mg base CX0 1 p1 gd1 ["self", "box"] (spHolds K CF) := ok_holds B1.F T N
    have o_hd : FnOk l.prog w K mg base CX0 1 p2 gd2 ["self"] (spHeld K CF) := ok_held B2.F T N m_sorted m_list m_tuple
    have o_lv : FnOk l.prog w K mg base CX0 2 p7 gd7 ["self", "frame", "boxes"] (spLeave K CF CR) := ok_leave B7.F T o_ho ⟨B1.a, B1.i, B1.k⟩ gb1 TRn.cl TRn.n5 m_sorted m_len
    have o_put : FnOk l.prog w K mg base CX0 2 f12 fd12 ["word", "frame", "answer"] (spPut K CF) := ok_put A12.F T o_ho ⟨B1.a, B1.i, B1.k⟩ gb1 ⟨_, PySem.W.mg_of X G gX⟩ m_tuple m_sorted m_set
    have o_do : FnOk l.prog w K mg base CX0 3 f13 fd13 ["now", "frame", "word", "answer"] (spDo K CF CR) := ok_do A13.F T N (o_ho.mono (by decide)) ⟨B1.a, B1.i, B1.k⟩ gb1 o_lv ⟨B7.a, B7.i, B7.k⟩ gb7 ⟨o_put.mono (by decide), A12.F.kp, b12, g12⟩ ⟨o_em.mono (by decide), A11.F.kp, b11, g11⟩ TRn.cl TRn.n4 (PySem.W.mg_of X G gP) tP.sq m_list
    have o_pl : FnOk l.prog w K mg base CX0 6 f14 fd14 ["now", "word", "answer"] (spPlain K CF CR flatG) := ok_plain A14.F TRn T ⟨o_do.mono (by decide), A13.F.kp, b13, g13⟩ ⟨o_le.mono (by decide), A10.F.kp, b10, g10⟩
    have o_ri : FnOk l.prog w K mg base CX0 3 p3 gd3 ["self", "program", "answers"] (spRInit K CF CR) := ok_rinit (k := 1) B3.F TRn T ⟨KCF.ms, B0.a, B0.i, KCF.kc⟩ o_fi gb0 ⟨o_first.mono (by decide), A7.F.kp, b7, g7⟩
    have o_wd : FnOk l.prog w K mg base CX0 5 p4 gd4 ["self"] (spWord K CF CR flatG) := ok_rword B4.F TRn T ⟨o_wa.mono (by decide), A5.F.kp, b5, g5⟩
    have o_lk : FnOk l.prog w K mg base CX0 6 p5 gd5 ["self"] (spLacks K CF CR flatG) := ok_lacks B5.F TRn T o_wd ⟨B4.a, B4.i, B4.k⟩ gb4 ⟨o_ch.mono (by decide), A9.F.kp, b9, g9⟩ m_len
    have o_nx : FnOk l.prog w K mg base CX0 2 p6 gd6 ["self", "choices"] (spNext K CR) := ok_next B6.F TRn ⟨o_whole.mono (by decide), A1.F.kp, b1, g1⟩ m_len
    have o_ca : FnOk l.prog w K mg base CX0 3 f15 fd15 ["now", "word"] (spCall K CF CR flatG) := ok_call (k := 1) A15.F TRn T N ⟨KCF.ms, B0.a, B0.i, KCF.kc⟩ o_fi gb0 (o_ho.mono (by decide)) ⟨B1.a, B1.i, B1.k⟩ gb1 ⟨o_first.mono (by decide), A7.F.kp, b7, g7⟩ ⟨o_head.mono (by decide), A8.F.kp, b8, g8⟩ m_zip
    have o_bk : FnOk l.prog w K mg base CX0 6 f16 fd16 ["now"] (spBack K CF CR flatG) := ok_back (k := 5) A16.F TRn T ⟨o_head.mono (by decide), A8.F.kp, b8, g8⟩ (o_lv.mono (by decide)) ⟨B7.a, B7.i, B7.k⟩ gb7 o_wd ⟨B4.a, B4.i, B4.k⟩ gb4 (o_ho.mono (by decide)) ⟨B1.a, B1.i, B1.k⟩ gb1 ⟨o_be.mono (by decide), A6.F.kp, b6, g6⟩ m_list m_len m_zip
    have o_fa : FnOk l.prog w K mg base CX0 3 f17 fd17 ["now", "fault"] (spFault K CF CR) := ok_fault A17.F TRn T o_lv ⟨B7.a, B7.i, B7.k⟩ gb7 m_list m_len
    have o_en : FnOk l.prog w K mg base CX0 7 f18 fd18 ["now"] (spEnds K CF CR flatG) := ok_ends (k := 6) A18.F TRn (o_wd.mono (by decide)) ⟨B4.a, B4.i, B4.k⟩ gb4 ⟨o_bk.mono (by decide), A16.F.kp, b16, g16⟩
    have o_st : FnOk l.prog w K mg base CX0 8 f19 fd19 ["now"] (spStep K CF CR flatG) := ok_step (k := 7) A19.F TRn (o_wd.mono (by decide)) ⟨B4.a, B4.i, B4.k⟩ gb4 (o_nx.mono (by decide)) ⟨B6.a, B6.i, B6.k⟩ gb6 ⟨o_ch.mono (by decide), A9.F.kp, b9, g9⟩ ⟨o_pl.mono (by decide), A14.F.kp, b14, g14⟩ ⟨o_en.mono (by decide), A18.F.kp, b18, g18⟩ ⟨o_fa.mono (by decide), A17.F.kp, b17, g17⟩ ⟨o_bk.mono (by decide), A16.F.kp, b16, g16⟩ ⟨o_ca.mono (by decide), A15.F.kp, b15, g15⟩
    have o_run : FnOk l.prog w K mg base CX0 9 f20 fd20 ["program", "answers", "most"] (spRun K flatG) := ok_run (k := 7) A20.F TRn T ⟨KCR.ms, B3.a, B3.i, KCR.kc⟩ (o_ri.mono (by decide)) gb3 (o_lk.mono (by decide)) ⟨B5.a, B5.i, B5.k⟩ gb5 (o_hd.mono (by decide)) ⟨B2.a, B2.i, B2.k⟩ gb2 ⟨o_en.mono (by decide), A18.F.kp, b18, g18⟩ ⟨o_st.mono (by decide), A19.F.kp, b19, g19⟩ m_tuple
    have o_deck : FnOk l.prog w K mg base CX0 1 f21 fd21 ["_law_script"] (spDeck K) := ok_deck A21.F m_list m_sum m_enumerate
    have o_draw : FnOk l.prog w K mg base CX0 1 f22 fd22 ["_law_deck_here", "_law_most"] spDraw := ok_draw A22.F m_len
    have o_some : FnOk l.prog w K mg base CX0 2 f23 fd23 ["_law_deck_here", "_law_few", "_law_most"] spSome := ok_some A23.F ⟨o_draw.mono (by decide), A22.F.kp, b22, g22⟩ m_int
    have o_nm : FnOk l.prog w K mg base CX0 2 f24 fd24 ["_law_deck_here", "_law_many"] spNames := ok_names A24.F ⟨o_draw.mono (by decide), A22.F.kp, b22, g22⟩ m_len m_range
    have o_bx : FnOk l.prog w K mg base CX0 2 f25 fd25 ["_law_deck_here", "_law_names_here"] spLBoxes := ok_lboxes A25.F ⟨o_draw.mono (by decide), A22.F.kp, b22, g22⟩ m_range m_len
    have o_ew : FnOk l.prog w K mg base CX0 2 f26 fd26 ["_law_deck_here", "_law_way", "_law_boxes", "_law_fault"] (spEndW K) := ok_endw A26.F ⟨o_draw.mono (by decide), A22.F.kp, b22, g22⟩ m_list m_range m_len m_tuple
    have o_et : FnOk l.prog w K mg base CX0 1 f27 fd27 ["_law_place", "_law_boxes", "_law_worths"] (spEntr K) := ok_entr A27.F m_sorted
    exact ok_law (k := 9) FL ⟨o_deck.mono (by decide), A21.F.kp, b21, g21⟩ ⟨o_draw.mono (by decide), A22.F.kp, b22, g22⟩ ⟨o_some.mono (by decide), A23.F.kp, b23, g23⟩ ⟨o_nm.mono (by decide), A24.F.kp, b24, g24⟩ ⟨o_bx.mono (by decide), A25.F.kp, b25, g25⟩ ⟨o_ew.mono (by decide), A26.F.kp, b26, g26⟩ ⟨o_et.mono (by decide), A27.F.kp, b27, g27⟩ ⟨o_run.mono (by decide), A20.F.kp, b20, g20⟩ m_range m_dict m_tuple m_int m_len m_sum m_enumerate m_list
end K13

open PySem PySem.W PyProof.Rows
set_option maxRecDepth 100000 in
set_option maxHeartbeats 0 in
theorem PySem.Challenge.cw_wipeways_k13_left_in_order_holds : PySem.Challenge.rw_wipeways_k13_left_in_order.Holds := by
  w_on; o_law; k_head; (case hw => w_witness2)
  k_fill
  refine Kk.walkT (l := PySem.Challenge.rw_wipeways_k13_left_in_order) (m := 63) (lev := 10) (x := "_law_script") rfl (by decide) rfl ⟨rfl, by decide, by decide⟩ (fun w h Y => PySem.W.kIn_of Y) ?F
  case F =>
    intro w mg mb mean fa h KX top hmg
    refine' K13.all_mk KX top hmg (K13.atC_mk ?KaCF ?KpgCF ?KhdCF ?KpoCF ?KsaCF ?KmkCF ?KkcCF) ?nCF_place ?nCF_boxes (K13.atC_mk ?KaCR ?KpgCR ?KhdCR ?KpoCR ?KsaCR ?KmkCR ?KkcCR) ?nCR_program ?nCR_answers ?nCR_wanted ?nCR_steps ?nCR_told ?nCR_left ?nCR_ending ?nCR_frames (K13.atM_mk ?Ba0 ?Bi0 ?Bl0 ?Bc0 ?Bk0) (K13.atM_mk ?Ba1 ?Bi1 ?Bl1 ?Bc1 ?Bk1) (K13.atM_mk ?Ba2 ?Bi2 ?Bl2 ?Bc2 ?Bk2) (K13.atM_mk ?Ba3 ?Bi3 ?Bl3 ?Bc3 ?Bk3) (K13.atM_mk ?Ba4 ?Bi4 ?Bl4 ?Bc4 ?Bk4) (K13.atM_mk ?Ba5 ?Bi5 ?Bl5 ?Bc5 ?Bk5) (K13.atM_mk ?Ba6 ?Bi6 ?Bl6 ?Bc6 ?Bk6) (K13.atM_mk ?Ba7 ?Bi7 ?Bl7 ?Bc7 ?Bk7) (K13.at_mk ?b0 ?l_0 ?c_0 ?k_0) (K13.at_mk ?b1 ?l_1 ?c_1 ?k_1) (K13.at_mk ?b2 ?l_2 ?c_2 ?k_2) (K13.at_mk ?b3 ?l_3 ?c_3 ?k_3) (K13.at_mk ?b4 ?l_4 ?c_4 ?k_4) (K13.at_mk ?b5 ?l_5 ?c_5 ?k_5) (K13.at_mk ?b6 ?l_6 ?c_6 ?k_6) (K13.at_mk ?b7 ?l_7 ?c_7 ?k_7) (K13.at_mk ?b8 ?l_8 ?c_8 ?k_8) (K13.at_mk ?b9 ?l_9 ?c_9 ?k_9) (K13.at_mk ?b10 ?l_10 ?c_10 ?k_10) (K13.at_mk ?b11 ?l_11 ?c_11 ?k_11) (K13.at_mk ?b12 ?l_12 ?c_12 ?k_12) (K13.at_mk ?b13 ?l_13 ?c_13 ?k_13) (K13.at_mk ?b14 ?l_14 ?c_14 ?k_14) (K13.at_mk ?b15 ?l_15 ?c_15 ?k_15) (K13.at_mk ?b16 ?l_16 ?c_16 ?k_16) (K13.at_mk ?b17 ?l_17 ?c_17 ?k_17) (K13.at_mk ?b18 ?l_18 ?c_18 ?k_18) (K13.at_mk ?b19 ?l_19 ?c_19 ?k_19) (K13.at_mk ?b20 ?l_20 ?c_20 ?k_20) (K13.at_mk ?b21 ?l_21 ?c_21 ?k_21) (K13.at_mk ?b22 ?l_22 ?c_22 ?k_22) (K13.at_mk ?b23 ?l_23 ?c_23 ?k_23) (K13.at_mk ?b24 ?l_24 ?c_24 ?k_24) (K13.at_mk ?b25 ?l_25 ?c_25 ?k_25) (K13.at_mk ?b26 ?l_26 ?c_26 ?k_26) (K13.at_mk ?b27 ?l_27 ?c_27 ?k_27) ?aL ?lL ?cL ?kL ?gM ?gX ?gP (K13.tuA_mk ?tlP ?tzP ?tvP) ?gN (K13.tuA_mk ?tlN ?tzN ?tvN) (K13.tuA_mk ?tlE ?tzE ?tvE) ?z0 ?z1 ?z2 ?z3 ?z4 ?z5 ?z6 ?z7 ?z8 ?z9 ?z10 ?z11 ?z12
    (case KaCF => k_is); (case KpgCF => k_is); (case KhdCF => k_is); (case KpoCF => k_is); (case KsaCF => k_is); (case KmkCF => k_is); (case KkcCF => k_is)
    (case nCF_place => k_is); (case nCF_boxes => k_is)
    (case KaCR => k_is); (case KpgCR => k_is); (case KhdCR => k_is); (case KpoCR => k_is); (case KsaCR => k_is); (case KmkCR => k_is); (case KkcCR => k_is)
    (case nCR_program => k_is); (case nCR_answers => k_is); (case nCR_wanted => k_is); (case nCR_steps => k_is); (case nCR_told => k_is); (case nCR_left => k_is); (case nCR_ending => k_is); (case nCR_frames => k_is)
    (case Ba0 => k_is); (case Bi0 => k_is); (case Bl0 => k_is); (case Bc0 => k_is); (case Bk0 => k_is)
    (case Ba1 => k_is); (case Bi1 => k_is); (case Bl1 => k_is); (case Bc1 => k_is); (case Bk1 => k_is)
    (case Ba2 => k_is); (case Bi2 => k_is); (case Bl2 => k_is); (case Bc2 => k_is); (case Bk2 => k_is)
    (case Ba3 => k_is); (case Bi3 => k_is); (case Bl3 => k_is); (case Bc3 => k_is); (case Bk3 => k_is)
    (case Ba4 => k_is); (case Bi4 => k_is); (case Bl4 => k_is); (case Bc4 => k_is); (case Bk4 => k_is)
    (case Ba5 => k_is); (case Bi5 => k_is); (case Bl5 => k_is); (case Bc5 => k_is); (case Bk5 => k_is)
    (case Ba6 => k_is); (case Bi6 => k_is); (case Bl6 => k_is); (case Bc6 => k_is); (case Bk6 => k_is)
    (case Ba7 => k_is); (case Bi7 => k_is); (case Bl7 => k_is); (case Bc7 => k_is); (case Bk7 => k_is)
    (case b0 => k_is); (case l_0 => k_is); (case c_0 => k_is); (case k_0 => k_is)
    (case b1 => k_is); (case l_1 => k_is); (case c_1 => k_is); (case k_1 => k_is)
    (case b2 => k_is); (case l_2 => k_is); (case c_2 => k_is); (case k_2 => k_is)
    (case b3 => k_is); (case l_3 => k_is); (case c_3 => k_is); (case k_3 => k_is)
    (case b4 => k_is); (case l_4 => k_is); (case c_4 => k_is); (case k_4 => k_is)
    (case b5 => k_is); (case l_5 => k_is); (case c_5 => k_is); (case k_5 => k_is)
    (case b6 => k_is); (case l_6 => k_is); (case c_6 => k_is); (case k_6 => k_is)
    (case b7 => k_is); (case l_7 => k_is); (case c_7 => k_is); (case k_7 => k_is)
    (case b8 => k_is); (case l_8 => k_is); (case c_8 => k_is); (case k_8 => k_is)
    (case b9 => k_is); (case l_9 => k_is); (case c_9 => k_is); (case k_9 => k_is)
    (case b10 => k_is); (case l_10 => k_is); (case c_10 => k_is); (case k_10 => k_is)
    (case b11 => k_is); (case l_11 => k_is); (case c_11 => k_is); (case k_11 => k_is)
    (case b12 => k_is); (case l_12 => k_is); (case c_12 => k_is); (case k_12 => k_is)
    (case b13 => k_is); (case l_13 => k_is); (case c_13 => k_is); (case k_13 => k_is)
    (case b14 => k_is); (case l_14 => k_is); (case c_14 => k_is); (case k_14 => k_is)
    (case b15 => k_is); (case l_15 => k_is); (case c_15 => k_is); (case k_15 => k_is)
    (case b16 => k_is); (case l_16 => k_is); (case c_16 => k_is); (case k_16 => k_is)
    (case b17 => k_is); (case l_17 => k_is); (case c_17 => k_is); (case k_17 => k_is)
    (case b18 => k_is); (case l_18 => k_is); (case c_18 => k_is); (case k_18 => k_is)
    (case b19 => k_is); (case l_19 => k_is); (case c_19 => k_is); (case k_19 => k_is)
    (case b20 => k_is); (case l_20 => k_is); (case c_20 => k_is); (case k_20 => k_is)
    (case b21 => k_is); (case l_21 => k_is); (case c_21 => k_is); (case k_21 => k_is)
    (case b22 => k_is); (case l_22 => k_is); (case c_22 => k_is); (case k_22 => k_is)
    (case b23 => k_is); (case l_23 => k_is); (case c_23 => k_is); (case k_23 => k_is)
    (case b24 => k_is); (case l_24 => k_is); (case c_24 => k_is); (case k_24 => k_is)
    (case b25 => k_is); (case l_25 => k_is); (case c_25 => k_is); (case k_25 => k_is)
    (case b26 => k_is); (case l_26 => k_is); (case c_26 => k_is); (case k_26 => k_is)
    (case b27 => k_is); (case l_27 => k_is); (case c_27 => k_is); (case k_27 => k_is)
    (case aL => k_is); (case lL => k_is); (case cL => k_is); (case kL => k_is); (case gM => k_is); (case gX => k_is); (case gP => k_is)
    (case tlP => k_is); (case tzP => decide); (case tvP => exact .cons ⟨_, rfl⟩ (.cons ⟨_, rfl⟩ (.cons ⟨_, rfl⟩ (.cons ⟨_, rfl⟩ (.cons ⟨_, rfl⟩ (.cons ⟨_, rfl⟩ (.nil)))))))
    (case gN => k_is); (case tlN => k_is); (case tzN => decide); (case tvN => exact .cons ⟨_, rfl⟩ (.cons rfl .nil))
    (case tlE => k_is); (case tzE => decide); (case tvE => exact .nil)
    (case z0 => k_is); (case z1 => k_is); (case z2 => k_is); (case z3 => k_is); (case z4 => k_is); (case z5 => k_is); (case z6 => k_is); (case z7 => k_is); (case z8 => k_is); (case z9 => k_is); (case z10 => k_is); (case z11 => k_is); (case z12 => k_is)

